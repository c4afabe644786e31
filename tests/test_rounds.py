"""Point 62: rounds, in which the choosers come in an order."""

import itertools
import unittest

from heightgames.betterings import bettering_ring, rests
from heightgames.climbs import climb
from heightgames.errors import NoStanding
from heightgames.games import Game
from heightgames.rounds import resting_order, round_from, rounds, turning
from tests.samples import (
    GREAT, SIZES, Checks, any_game, best_game, drawing, flee, games, lone, meet, odd_values, side_by_side, steep_game,
)


def wanted_round(game, standing, order):
    """The changes of a round, and where it leads, straight from the gains."""
    changes, here = [], standing
    for chooser in order:
        at = game.choosers().index(chooser)
        line = {way: game.gains(here[:at] + (way,) + here[at + 1:])[at] for way in game.ways(chooser)}
        most = max(line.values())
        if most > line[here[at]]:
            way = min(way for way in line if line[way] == most)
            changes.append((chooser, way))
            here = here[:at] + (way,) + here[at + 1:]
    return changes, here


def wanted_rounds(game, standing, order):
    places = [standing]
    while places.count(places[-1]) == 1 and places[-1] not in rests(game):
        places.append(wanted_round(game, places[-1], order)[1])
    return ("rests" if places[-1] in rests(game) else "turns", places)


def wanted_turning(game, order):
    """The standings from which as many rounds as there are standings come to no rest."""
    goals = {standing: wanted_round(game, standing, order)[1] for standing in game}
    found = []
    for standing in game:
        here = standing
        for _ in range(len(game)):
            here = goals[here]
        if goals[here] != here:
            found.append(standing)
    return found


class Rounds(Checks):
    def check(self, game, many=2):
        """Check the rounds of a game; return whether some orders turn, and whether all do."""
        orders = [list(order) for order in itertools.permutations(game.choosers())]
        still = rests(game)
        lost = [self.check_order(game, order, still, many) for order in orders]
        resting = [order for order, places in zip(orders, lost) if not places]
        self.exact(self.unchanged(resting_order, game), resting[0] if resting else None)
        if climb(game, best=True) is not None:
            self.assertEqual(lost, [[]] * len(orders))
        return (any(lost), all(lost))

    def check_order(self, game, order, still, many):
        found = self.unchanged(turning, game, order)
        self.exact(found, wanted_turning(game, order))
        for standing in sorted({game.standings()[0], game.standings()[-1], *game.standings()[1:-1][:many], *found[:many]}):
            changes, _ = wanted_round(game, standing, order)
            self.exact(round_from(game, standing, order), (standing, changes))
            word, places = rounds(game, standing, order)
            if len(game) < 30:
                self.exact((word, places), wanted_rounds(game, standing, order))
            self.exact(word, "turns" if standing in found else "rests")
            self.assertIs(places[-1] in still, word == "rests")
            self.assertEqual([places.count(place) for place in places[:-1]].count(2), int(word == "turns"))
            for ahead, behind in zip(places, places[1:]):
                self.assertEqual(wanted_round(game, ahead, order)[1], behind)
        return found

    def test_all_shapes(self):
        draw = drawing(601)
        for sizes in [sizes for sizes in SIZES[::5] if len(sizes) < 4]:
            self.check(any_game(draw, sizes))
            self.assertEqual(self.check(best_game(draw, sizes, 3)), (False, False))

    def test_all_kinds_of_games(self):
        draw = drawing(602)
        small, great = ((1,), (2, 2), (4, 3), (2, 1, 3)), ((3, 3, 3), (2, 2, 2, 2))
        seen = {self.check(game) for sizes, bounds in ((small, (1, GREAT)), (great, (2,))) for game in games(draw, sizes, bounds)}
        self.assertEqual(seen, {(True, True), (True, False), (False, False)})

    def test_great_games(self):
        draw = drawing(603)
        for make in (any_game, best_game, steep_game):
            self.check(make(draw, (3, 3, 3, 3), 1), 1)

    def test_orders_matter(self):
        draw = drawing(604)
        seen = set()
        for turn in range(160):
            game = any_game(draw, (2, 2, 2) if turn < 100 else (2, 2, 2, 2), 2)
            turns = [bool(wanted_turning(game, order)) for order in itertools.permutations(game.choosers())]
            orders = [list(order) for order in itertools.permutations(game.choosers())]
            resting = [order for order, turn in zip(orders, turns) if not turn]
            self.exact(resting_order(game), resting[0] if resting else None)
            seen.add(turns.index(False) if resting else None)
        self.assertLessEqual({0, 1, 2, None}, seen)

    def test_the_least_way_of_the_best(self):
        game = Game({"c": ["t", "u", "v", "w"]}, {("t",): [1], ("u",): [7], ("v",): [0], ("w",): [7]})
        self.exact(round_from(game, ("t",), ["c"]), (("t",), [("c", "u")]))
        self.exact(round_from(game, ("w",), ["c"]), (("w",), []))
        self.exact(rounds(game, ("v",), ["c"]), ("rests", [("v",), ("u",)]))
        self.exact(rounds(game, ("w",), ["c"]), ("rests", [("w",)]))
        self.exact(resting_order(game), ["c"])
        self.exact(turning(game, ["c"]), [])

    def test_side_by_side(self):
        draw = drawing(605)
        for one in (flee(), meet(), any_game(draw, (2, 3))):
            both = side_by_side(one, flee())
            self.exact(resting_order(both), None)
            order = both.choosers()
            self.exact(turning(both, order), both.standings())

    def test_edges(self):
        draw = drawing(606)
        for game in (lone(), Game({"a": ["l"]}, {("l",): [7]}), any_game(draw, (4,), GREAT), any_game(draw, (1, 4)),
                     any_game(draw, (1, 1, 1, 1)), any_game(draw, (1, 1, 4), 1)):
            self.assertEqual(self.check(game), (False, False))
            self.exact(resting_order(game), game.choosers())

    def test_the_document(self):
        self.exact(rounds(meet(), ("l", "r"), ["a", "b"]), ("rests", [("l", "r"), ("r", "r")]))
        self.exact(rounds(meet(), ("l", "r"), ["b", "a"]), ("rests", [("l", "r"), ("l", "l")]))
        self.exact(resting_order(flee()), None)
        self.exact(rounds(flee(), ("l", "r"), ["a", "b"]), ("turns", [("l", "r"), ("r", "l"), ("l", "r")]))
        self.exact(turning(flee(), ["b", "a"]), flee().standings())
        self.exact(turning(meet(), ["b", "a"]), [])
        self.exact(round_from(flee(), ("l", "r"), ["a", "b"]), (("l", "r"), [("a", "r"), ("b", "l")]))
        self.assertIsNot(bettering_ring(flee()), None)

    def test_wrong_values(self):
        for make in (meet, flee):
            game = make()
            for thing in odd_values() + [["l", "r"], ("l", "r", "l")]:
                for call in (round_from, rounds):
                    self.assertIs(self.raised(NoStanding, call, game, thing, ["a", "b"]).standing, thing)
            self.assertEqual(game, make())

    def test_what_is_handed_in_and_returned(self):
        order = ["b", "a"]
        for game in (meet(), flee()):
            self.new_each_time(turning, game, order)
            self.new_each_time(resting_order, game)
            for standing in game:
                for call in (round_from, rounds):
                    self.new_each_time(call, game, standing, order)
        self.exact(order, ["b", "a"])
        found = resting_order(meet())
        self.assertEqual(self.unchanged(turning, meet(), found), [])


if __name__ == "__main__":
    unittest.main()
