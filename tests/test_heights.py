"""Points 32 and 5: heights by steps."""

import unittest

from heightgames.errors import NoHeight, NoStanding
from heightgames.games import Game
from heightgames.heights import height, is_height, nearer, split, tops
from heightgames.rows import is_ring, row_sum
from heightgames.squares import bad_square, ring_of, sums
from tests.samples import (
    CHOOSERS, GREAT, PLAIN, SIZES, SOME_SIZES, Checks, any_game, bent_game, drawing, flee, heights_and_extras, lone, meet,
    odd_values, rings, shape_of, steep_game,
)


def from_least(heights):
    """The same height, 0 at the least standing."""
    return {standing: heights[standing] - heights[min(heights)] for standing in sorted(heights)}


class Heights(Checks):
    def test_heights_with_extras(self):
        draw = drawing(41)
        for sizes in SIZES:
            for bound in (1, GREAT):
                heights, extras = heights_and_extras(draw, sizes, bound)
                gains = {standing: [heights[standing] + extras[(chooser, standing[:at] + standing[at + 1:])]
                                    for at, chooser in enumerate(CHOOSERS[:len(sizes)])] for standing in heights}
                game = Game(shape_of(sizes), gains)
                wanted = from_least(heights)
                low = heights[min(heights)]
                self.exact(height(game), wanted)
                self.assertIs(is_height(game, wanted), True)
                self.assertIs(is_height(game, heights), True)
                # The extras make up for the height that was made 0 at the least standing.
                self.exact(split(game), (wanted, {line: extras[line] + low for line in sorted(extras)}))
                greatest = max(heights.values())
                self.exact(tops(game), [standing for standing in wanted if heights[standing] == greatest])
                self.assertIs(bad_square(game), None)

    def test_heights_are_just_where_no_square_is_bad(self):
        draw = drawing(42)
        seen = set()
        for sizes in SOME_SIZES:
            for make in (steep_game, bent_game, any_game):
                for bound in (1, 2, GREAT):
                    game = make(draw, sizes, bound)
                    found = self.unchanged(height, game)
                    bad = bad_square(game)
                    self.assertIs(found is None, bad is not None)
                    seen.add((make.__name__, found is None))
                    if found is None:
                        self.assertNotEqual(sum(sums(game, bad)), 0)
                        self.assertNotEqual(row_sum(game, ring_of(game, bad)), 0)
                        self.assertIs(split(game), None)
                        self.raised(NoHeight, tops, game)
                        self.raised(NoHeight, nearer, game, game.standings()[0], game.standings()[-1])
                        continue
                    self.assertEqual(found[game.standings()[0]], 0)
                    self.exact(list(found), game.standings())
                    for standing in game:
                        for change in game.changes(standing):
                            self.assertEqual(found[game.goal(standing, change)] - found[standing], game.own(standing, change))
                    for ring in rings(draw, game):
                        self.assertIs(is_ring(game, ring), True)
                        self.assertEqual(row_sum(game, ring), 0)
        self.assertEqual(seen, {("steep_game", False), ("bent_game", True), ("bent_game", False), ("any_game", True),
                                ("any_game", False)})

    def test_one_chooser_and_one_way(self):
        game = Game({"c": ["x", "u", "v"]}, {("u",): [5], ("v",): [-7], ("x",): [5]})
        self.exact(height(game), {("u",): 0, ("v",): -12, ("x",): 0})
        self.exact(split(game)[1], {("c", ()): 5})
        self.exact(tops(game), [("u",), ("x",)])
        still = Game({"a": ["l"], "b": ["m"]}, {("l", "m"): (3, -4)})
        self.exact(height(still), {("l", "m"): 0})
        self.exact(split(still), ({("l", "m"): 0}, {("a", ("m",)): 3, ("b", ("l",)): -4}))
        self.exact(tops(still), [("l", "m")])
        self.exact(nearer(still, ("l", "m"), ("l", "m")), 0)

    def test_is_height(self):
        draw = drawing(43)
        for sizes in SOME_SIZES:
            game = steep_game(draw, sizes, 5)
            found = height(game)
            for number in (0, 1, -GREAT):
                moved = {standing: found[standing] + number for standing in reversed(found)}
                self.assertIs(self.unchanged(is_height, game, moved), True)
            if len(game) > 1:
                self.assertIs(is_height(game.times(2), found), set(found.values()) == {0})
            for standing in game:
                other = {**found, standing: found[standing] + draw.choice((1, -1))}
                self.assertIs(is_height(game, other), len(game) == 1)
                del other[standing]
                self.assertIs(is_height(game, other), False)

    def test_what_is_no_height(self):
        game, flat = meet(), meet().times(0)
        zero = {standing: 0 for standing in flat}
        self.assertIs(is_height(flat, zero), True)
        self.assertIs(is_height(flat, {standing: 1 for standing in flat}), True)
        for value in odd_values():
            if value.__class__ is not int:
                self.assertIs(is_height(flat, {**zero, ("r", "r"): value}), False)
                self.assertIs(is_height(flat, {standing: value for standing in flat}), False)
        for key in (("l",), "rr", ("r", "x"), 1, None, ("r", "r", "r"), (("r", "r"),), frozenset(["r"])):
            self.assertIs(is_height(flat, {**zero, key: 0}), False)
            less = {**zero, key: 0}
            del less[("r", "r")]
            self.assertIs(is_height(flat, less), False)
        for thing in odd_values() + [list(zero.items()), list(zero), [(("l", "l"), 0)], {}]:
            self.assertIs(is_height(flat, thing), False)
            self.assertIs(is_height(game, thing), False)
        self.assertIs(is_height(flee(), zero), False)

    def test_nearer(self):
        draw = drawing(44)
        for sizes in SOME_SIZES:
            game = steep_game(draw, sizes, GREAT)
            found = height(game)
            for _ in range(9):
                one, other = draw.choice(game.standings()), draw.choice(game.standings())
                self.exact(nearer(game, one, other), found[other] - found[one])
        self.exact(nearer(meet(), ("l", "r"), ("r", "r")), 1)

    def test_nearer_with_wrong_values(self):
        for game in (meet(), flee()):
            for thing in odd_values() + [["l", "l"], ("x", "l")]:
                self.assertIs(self.raised(NoStanding, nearer, game, thing, ("l", "l")).standing, thing)
                self.assertIs(self.raised(NoStanding, nearer, game, ("l", "l"), thing).standing, thing)
                self.assertIs(self.raised(NoStanding, nearer, game, thing, ["other"]).standing, thing)
        self.raised(NoHeight, nearer, flee(), ("l", "l"), ("r", "r"))
        self.raised(NoHeight, tops, flee())

    def test_what_is_returned_is_new(self):
        game = meet()
        for ask in (height, tops, lambda asked: split(asked)[0], lambda asked: split(asked)[1]):
            before = repr(ask(game))
            ask(game).clear()
            self.assertEqual(repr(ask(game)), before)
        found = height(game)
        found[("l", "l")] = 99
        self.exact(height(game)[("l", "l")], 0)
        self.assertEqual(game, meet())

    def test_great_gains(self):
        game = Game(PLAIN, {("l", "l"): (GREAT, -GREAT), ("l", "r"): (-GREAT, GREAT), ("r", "l"): (GREAT, GREAT),
                            ("r", "r"): (-GREAT, 3 * GREAT)})
        self.exact(height(game), {("l", "l"): 0, ("l", "r"): 2 * GREAT, ("r", "l"): 0, ("r", "r"): 2 * GREAT})
        self.exact(tops(game), [("l", "r"), ("r", "r")])
        self.exact(height(lone()), {("u",): 0, ("v",): 1})


if __name__ == "__main__":
    unittest.main()
