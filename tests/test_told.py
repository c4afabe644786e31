"""Points 42 and 6: games told by roads, and by ties."""

import itertools
import unittest

from heightgames.errors import NoHeight, NoTies
from heightgames.games import Game
from heightgames.heights import height
from heightgames.roads import Roads
from heightgames.squares import bad_square
from heightgames.ties import Ties
from heightgames.told import as_roads, as_ties
from tests.samples import (
    GREAT, SIZES, SOME_SIZES, Checks, any_game, bent_game, drawing, flee, lone, meet, shape_of, small_and_great_games,
    standings_of, steep_game, tied_game, two_roads,
)
from tests.test_roads import any_costs, any_uses
from tests.test_ties import any_tables


def has_ties(game):
    """Whether what each chooser gains is a sum of parts by one other chooser each."""
    if len(game.choosers()) == 1:
        return all(game.gains(standing) == (0,) for standing in game)
    for at, standing in itertools.product(range(len(game.choosers())), game.standings()):
        others = [place for place in range(len(standing)) if place != at]
        for one, two in itertools.combinations(others, 2):
            for way, other_way in itertools.product(game.ways(game.choosers()[one]), game.ways(game.choosers()[two])):
                corners = [list(standing) for _ in range(4)]
                corners[1][one] = corners[3][one] = way
                corners[2][two] = corners[3][two] = other_way
                gains = [game.gains(tuple(corner))[at] for corner in corners]
                if gains[0] + gains[3] != gains[1] + gains[2]:
                    return False
    return True


class ByRoads(Checks):
    def check(self, game):
        if bad_square(game) is not None:
            self.raised(NoHeight, as_roads, game)
            return False
        roads = self.unchanged(as_roads, game)
        self.assertIs(roads.__class__, Roads)
        self.assertEqual(roads.game(), game)
        found = roads.height()
        low = found[min(found)]
        self.exact({standing: found[standing] - low for standing in found}, height(game))
        return True

    def test_all_shapes(self):
        draw = drawing(101)
        for sizes in SIZES:
            self.assertTrue(self.check(steep_game(draw, sizes, GREAT)))

    def test_all_kinds_of_games(self):
        seen = {self.check(game) for game in small_and_great_games(drawing(102))}
        self.assertEqual(seen, {True, False})

    def test_what_roads_tell_is_told_by_roads(self):
        draw = drawing(103)
        for sizes in SOME_SIZES:
            self.assertTrue(self.check(Roads(any_uses(draw, sizes), any_costs(draw, len(sizes))).game()))

    def test_edges(self):
        self.assertEqual(as_roads(meet()).game(), meet())
        self.assertEqual(as_roads(lone()).game(), lone())
        self.assertEqual(as_roads(two_roads().game()).game(), two_roads().game())
        for gain in (0, 7, -GREAT):
            still = Game({"a": ["l"]}, {("l",): [gain]})
            self.assertEqual(as_roads(still).game(), still)
        pair = Game({"a": ["l"], "b": ["m"]}, {("l", "m"): (3, -4)})
        self.assertEqual(as_roads(pair).game(), pair)

    def test_one_gain_otherwise(self):
        draw = drawing(104)
        for sizes in ((2, 2), (3, 2), (2, 2, 2), (3, 3, 3, 3)):
            game = steep_game(draw, sizes)
            for standing in draw.sample(game.standings(), 3):
                gains = list(game.gains(standing))
                gains[-1] += 1
                bent = game.with_gains(standing, gains)
                self.raised(NoHeight, as_roads, bent)
                self.assertEqual(bent.gains(standing), tuple(gains))
        self.raised(NoHeight, as_roads, flee())
        self.assertEqual(flee(), flee())

    def test_what_is_returned_is_new(self):
        game = meet()
        self.assertEqual(as_roads(game), as_roads(meet()))
        self.new_each_time(lambda asked: as_roads(asked).height(), game)
        self.assertEqual(game, meet())


class ByTies(Checks):
    def check(self, game):
        if not has_ties(game):
            self.raised(NoTies, as_ties, game)
            return False
        ties = self.unchanged(as_ties, game)
        self.assertIs(ties.__class__, Ties)
        self.assertEqual(ties.game(), game)
        self.exact(ties.pairs(), list(itertools.combinations(game.choosers(), 2)))
        return True

    def test_all_shapes(self):
        draw = drawing(111)
        for sizes in SIZES[::2]:
            game = Ties(shape_of(sizes), any_tables(draw, sizes, draw.choice((0, 1, 3, 6)), GREAT)).game()
            self.assertTrue(self.check(game))

    def test_all_kinds_of_games(self):
        seen = {self.check(game) for game in small_and_great_games(drawing(112))}
        self.assertEqual(seen, {True, False})

    def test_two_choosers_always_have_ties(self):
        draw = drawing(113)
        for sizes in itertools.product((1, 2, 3, 4), repeat=2):
            for make in (any_game, bent_game, steep_game):
                self.assertTrue(self.check(make(draw, sizes, GREAT)))
        self.assertTrue(self.check(flee()))

    def test_one_chooser(self):
        for many in (1, 2, 3, 4):
            zero = Game(shape_of((many,)), {standing: [0] for standing in standings_of(shape_of((many,)))})
            self.assertTrue(self.check(zero))
            self.exact(as_ties(zero).pairs(), [])
            for standing in zero:
                self.raised(NoTies, as_ties, zero.with_gains(standing, (1,)))
            self.raised(NoTies, as_ties, Game(zero.shape(), {standing: [-5] for standing in zero}))
        self.raised(NoTies, as_ties, lone())

    def test_one_gain_otherwise(self):
        draw = drawing(114)
        for sizes in ((2, 2, 2), (2, 1, 3), (3, 3, 3), (2, 2, 2, 2), (3, 3, 3, 3), (1, 1, 4, 1)):
            game = tied_game(draw, sizes)
            self.assertTrue(self.check(game))
            for at in range(len(sizes)):
                standing = draw.choice(game.standings())
                gains = list(game.gains(standing))
                gains[at] += draw.choice((-1, 1, GREAT))
                self.check(game.with_gains(standing, gains))
                # More at all standings of a way alone is a matter of ties.
                more = {place: [gain + (5 if at == by and place[at] == standing[at] else 0)
                                for by, gain in enumerate(game.gains(place))] for place in game}
                self.assertTrue(self.check(Game(game.shape(), more)))
        three = {"a": ["l", "r"], "b": ["l", "r"], "c": ["l", "r"]}
        zero = {standing: (0, 0, 0) for standing in standings_of(three)}
        for at in range(3):
            gains = tuple(int(place == at) for place in range(3))
            self.raised(NoTies, as_ties, Game(three, {**zero, ("r", "r", "r"): gains}))
            self.raised(NoTies, as_ties, Game(three, {**zero, ("l", "l", "l"): gains}))

    def test_all_gains_on_the_way_to_the_height(self):
        # Ties have a height exactly if each one has; the ties found are bad just then.
        draw = drawing(115)
        seen = set()
        for sizes in SOME_SIZES[3:]:
            for steep in (True, False):
                game = Ties(shape_of(sizes), any_tables(draw, sizes, 6, 5, steep)).game()
                bad = as_ties(game).bad_ties()
                self.assertIs(height(game) is None, bad != [])
                seen.add(bad == [])
        self.assertEqual(seen, {True, False})


if __name__ == "__main__":
    unittest.main()
