"""Point 82, with points 10 and 40: what standings are worth to all choosers together."""

import math
import unittest
from fractions import Fraction

from heightgames.betterings import rests
from heightgames.games import Game
from heightgames.heights import tops
from heightgames.roads import Roads
from heightgames.worth import best_sum, dearness, rest_sums
from tests.reference import better_moves
from tests.samples import GREAT, SIZES, SOME_SIZES, Checks, any_game, drawing, flat_game, flee, lone, meet, small_and_great_games, two_roads
from tests.test_roads import NAMES, any_roads, any_uses


def rests_of(game):
    rising = {move[0] for move in better_moves(game)}
    return [standing for standing in game.standings() if standing not in rising]


class Sums(Checks):
    def check(self, game):
        totals = {standing: sum(game.gains(standing)) for standing in game.standings()}
        most = max(totals.values())
        self.exact(self.unchanged(best_sum, game), (most, min(place for place in totals if totals[place] == most)))
        still = [(totals[place], place) for place in rests_of(game)]
        if not still:
            self.assertIs(rest_sums(game), None)
            return False
        high = max(total for total, _ in still)
        self.exact(self.unchanged(rest_sums, game), (min(still), min(one for one in still if one[0] == high)))
        return True

    def test_all_kinds_of_games(self):
        seen = {self.check(game) for game in small_and_great_games(drawing(1201))}
        self.assertEqual(seen, {True, False})

    def test_all_shapes(self):
        draw = drawing(1202)
        for sizes in SIZES[::6]:
            self.check(any_game(draw, sizes, 2))
            self.check(flat_game(draw, sizes))

    def test_several_have_the_sum(self):
        shape = {"a": ["l", "m", "r"]}
        game = Game(shape, {("l",): (1,), ("m",): (4,), ("r",): (4,)})
        self.exact(best_sum(game), (4, ("m",)))
        self.exact(rest_sums(game), ((4, ("m",)), (4, ("m",))))
        zero = flee().times(0)
        self.exact(best_sum(zero), (0, ("l", "l")))
        self.exact(rest_sums(zero), ((0, ("l", "l")), (0, ("l", "l"))))
        self.exact(rest_sums(meet().plus(Game(zero.shape(), {standing: (0, -2) for standing in zero}))), ((0, ("r", "r")), (2, ("l", "l"))))
        self.exact(best_sum(Game({"a": ["l"]}, {("l",): (-GREAT,)})), (-GREAT, ("l",)))

    def test_the_document(self):
        self.exact([best_sum(meet()), rest_sums(meet()), rest_sums(flee()), dearness(two_roads())],
                   [(4, ("l", "l")), ((2, ("r", "r")), (4, ("l", "l"))), None, (1, 1)])


class Dearness(Checks):
    def check(self, roads):
        game = roads.game()
        found = self.unchanged(dearness, roads)
        least = min(roads.cost(standing) for standing in game)
        if least <= 0:
            self.assertIs(found, None)
            return None
        wanted = Fraction(max(roads.cost(standing) for standing in rests_of(game)), least)
        self.exact(found, (wanted.numerator, wanted.denominator))
        self.assertEqual(math.gcd(*found), 1)
        return wanted

    def test_any_costs(self):
        draw = drawing(1211)
        seen = set()
        for sizes in SOME_SIZES:
            for bound in (1, 9, GREAT):
                roads = any_roads(draw, sizes, bound)
                seen.add(self.check(roads) is None)
                costs = {road: [abs(cost) + 1 for cost in roads.costs(road)] for road in roads.roads()}
                uses = any_uses(draw, sizes)
                seen.add(self.check(Roads(uses, costs)) is None)
                for chooser in uses:
                    for way in uses[chooser]:
                        uses[chooser][way] = uses[chooser][way] or ["hill"]
                seen.add(self.check(Roads(uses, costs)) is None)
        self.assertEqual(seen, {True, False})

    def test_costs_below_0(self):
        uses = {"a": {"h": ["x"], "l": ["y"]}, "b": {"h": ["x"], "l": ["y"]}}
        self.exact(dearness(Roads(uses, {"x": [-1, -1], "y": [2, 2]})), None)
        self.exact(dearness(Roads(uses, {"x": [0, 0], "y": [2, 2]})), None)
        self.exact(dearness(Roads(uses, {"x": [5, -1], "y": [4, 4]})), None)
        # All costs of standings are above 0 though one road costs less than nothing.
        self.exact(dearness(Roads({"a": {"h": ["x", "z"], "l": ["y", "z"]}}, {"x": [-2], "y": [-1], "z": [5]})), (1, 1))
        self.exact(dearness(Roads(uses, {"x": [6, 2], "y": [3, 4]})), (2, 1))
        self.exact(dearness(Roads({"a": {"h": []}}, {})), None)
        self.exact(dearness(Roads({"a": {"h": ["x"]}}, {"x": [GREAT]})), (1, 1))

    def test_linear_costs(self):
        draw = drawing(1212)
        most = Fraction(1)
        for sizes in SOME_SIZES[:-1] * 6:
            costs = {}
            for name in NAMES:
                slope, base = draw.choice((0, 1, 1, 3)), draw.choice((0, 0, 1, 2))
                costs[name] = [slope * many + base for many in range(1, len(sizes) + 1)]
            roads = Roads(any_uses(draw, sizes), costs)
            self.assertIs(roads.is_linear(), True)
            found = self.check(roads)
            if found is not None:
                most = max(most, found)
                self.assertLessEqual(found, Fraction(5, 2))
                least = min(roads.cost(standing) for standing in roads.game())
                for standing in tops(roads.game()):
                    self.assertLessEqual(roads.cost(standing), 2 * least)
                self.assertIs(set(tops(roads.game())) <= set(rests(roads.game())), True)
        self.assertGreater(most, 1)

    def test_five_halves(self):
        # Three choosers who all may go by two roads, or by the long way round: the worst there is.
        uses = {
            "a": {"near": ["ha", "ga"], "far": ["hb", "gb", "gc"]},
            "b": {"near": ["hb", "gb"], "far": ["hc", "gc", "ga"]},
            "c": {"near": ["hc", "gc"], "far": ["ha", "ga", "gb"]},
        }
        costs = {name: [1, 2, 3] for name in ("ha", "hb", "hc", "ga", "gb", "gc")}
        self.exact(dearness(Roads(uses, costs)), (5, 2))


if __name__ == "__main__":
    unittest.main()
