"""Point 41: games told by ties."""

import itertools
import unittest

from heightgames.errors import NoChooser, NoPair
from heightgames.games import Game
from heightgames.heights import height
from heightgames.ties import Ties
from tests.samples import (
    CHOOSERS, GREAT, PLAIN, SIZES, SOME_SIZES, Checks, any_game, drawing, flee, meet, odd_values, one_tie, shape_of,
    standings_of, steep_game, two_roads,
)

TABLE = {("l", "l"): (2, 2), ("l", "r"): (0, 0), ("r", "l"): (0, 0), ("r", "r"): (1, 1)}


def any_table(draw, shape, pair, bound=9, steep=False):
    """A table of a pair; if it is steep, that of a game that has a height by steps."""
    if steep:
        sizes = tuple(len(shape[chooser]) for chooser in pair)
        game = steep_game(draw, sizes, bound)
        ways = list(itertools.product(*[shape[chooser] for chooser in pair]))
        return {place: list(game.gains(standing)) for place, standing in zip(ways, game)}
    return {place: [draw.randint(-bound, bound), draw.randint(-bound, bound)]
            for place in itertools.product(*[shape[chooser] for chooser in pair])}


def any_tables(draw, sizes, many, bound=9, steep=False):
    shape = shape_of(sizes)
    pairs = list(itertools.combinations(sorted(shape), 2))
    chosen = draw.sample(pairs, min(many, len(pairs)))
    return {pair: any_table(draw, shape, pair, bound, steep) for pair in chosen}


class Telling(Checks):
    def test_all_shapes(self):
        draw = drawing(61)
        for sizes in SIZES:
            shape = shape_of(sizes)
            for many in (0, 1, 3, 6):
                tables = any_tables(draw, sizes, many, GREAT)
                ties = self.unchanged(Ties, shape, tables)
                self.exact(ties.pairs(), sorted(tables))
                for pair in tables:
                    table = {place: tuple(tables[pair][place]) for place in sorted(tables[pair])}
                    self.exact(ties.table(pair), table)
                    self.exact(ties.tie_game(pair).shape(), {chooser: shape[chooser] for chooser in pair})
                    self.assertEqual(ties.tie_game(pair), Game({chooser: shape[chooser] for chooser in pair}, table))
                game = ties.game()
                self.exact(game.shape(), shape)
                for standing in standings_of(shape):
                    gains = [0] * len(sizes)
                    for one, other in tables:
                        at, by = CHOOSERS.index(one), CHOOSERS.index(other)
                        gains[at] += tables[(one, other)][(standing[at], standing[by])][0]
                        gains[by] += tables[(one, other)][(standing[at], standing[by])][1]
                    self.exact(game.gains(standing), tuple(gains))
                for chooser in shape:
                    wanted = sorted({name for pair in tables if chooser in pair for name in pair if name != chooser})
                    self.exact(ties.neighbours(chooser), wanted)

    def test_bad_ties(self):
        draw = drawing(62)
        seen = set()
        for sizes in SOME_SIZES:
            for many in (0, 1, 6):
                for steep in (True, False):
                    tables = any_tables(draw, sizes, many, 5, steep)
                    ties = Ties(shape_of(sizes), tables)
                    bad = self.unchanged(lambda: ties.bad_ties())
                    self.exact(bad, [pair for pair in sorted(tables) if height(ties.tie_game(pair)) is None])
                    self.assertIs(height(ties.game()) is None, bad != [])
                    seen.add((steep, bad == []))
        self.assertEqual(seen, {(True, True), (False, True), (False, False)})

    def test_one_bad_tie_of_three(self):
        shape = {"a": ["l", "r"], "b": ["l", "r"], "c": ["l", "r"]}
        bad = {standing: flee().gains(standing) for standing in flee()}
        ties = Ties(shape, {("a", "c"): TABLE, ("b", "c"): bad, ("a", "b"): TABLE})
        self.exact(ties.bad_ties(), [("b", "c")])
        self.exact(ties.pairs(), [("a", "b"), ("a", "c"), ("b", "c")])
        self.exact(height(ties.game()), None)
        self.exact(Ties(shape, {("b", "c"): bad, ("a", "b"): bad}).bad_ties(), [("a", "b"), ("b", "c")])

    def test_no_ties(self):
        ties = Ties({"b": ("r", "l"), "a": ["l"]}, {})
        self.exact(ties.pairs(), [])
        self.exact(ties.neighbours("a"), [])
        self.exact(ties.bad_ties(), [])
        self.exact(ties.game().gains(("l", "r")), (0, 0))
        self.exact(ties.game().shape(), {"a": ["l"], "b": ["l", "r"]})
        self.raised(NoPair, ties.table, ("a", "b"))
        alone = Ties({"a": ["l", "r"]}, {})
        self.exact(alone.game().gains(("r",)), (0,))
        self.exact(alone.neighbours("a"), [])

    def test_order_and_kind_of_what_is_given(self):
        ties = Ties({"b": ("r", "l"), "a": ("l", "r")}, {("a", "b"): {place: list(TABLE[place]) for place in reversed(TABLE)}})
        self.assertEqual(ties, one_tie())
        self.exact(ties.table(("a", "b")), TABLE)
        self.assertEqual(ties.game(), meet())
        self.assertEqual(ties.tie_game(("a", "b")), meet())


class Wrongs(Checks):
    def test_wrong_ways(self):
        bad = [{"a": ["l", "l"]}, {"a": "lr"}, {"a": []}, {"A": ["l"]}, {}, shape_of((4, 4, 3, 2)), {name: ["l"] for name in "abcde"}]
        # Of the odd values these alone are shapes.
        odd = [thing for thing in odd_values() if thing not in [{"a": ["x"]}, {"c": ["l"]}]]
        for ways in odd + bad:
            for tables in ({}, {("a", "b"): TABLE}, None):
                self.wrong_at(0, Ties, ways, tables)

    def test_wrong_tables(self):
        three = {"a": ["l", "r"], "b": ["l", "r"], "c": ["u"]}
        less = {place: TABLE[place] for place in list(TABLE)[1:]}
        bad = [{("b", "a"): TABLE}, {("a", "a"): TABLE}, {("a", "c"): TABLE}, {("a", "x"): TABLE}, {("a",): TABLE}, {"ab": TABLE},
               {("a", "b", "c"): TABLE}, {("a", "b"): less}, {("a", "b"): {**less, ("l", "u"): (1, 1)}}, {("a", "b"): {}},
               {("a", "b"): {**TABLE, ("l", "u"): (1, 1)}}, {("a", "b"): {**TABLE, ("l", "l"): (1,)}}, {("a", "b"): list(TABLE)},
               {("a", "b"): {**TABLE, ("l", "l"): (1, 2, 3)}}, {("a", "b"): {**TABLE, ("l", "l"): (1, True)}},
               {("a", "b"): {**TABLE, ("l", "l"): "12"}}, {("a", "b"): {**TABLE, ("l", "l"): {1: 1, 2: 2}}},
               {("a", "b"): {**less, "ll": (1, 1)}}, {("a", "b"): {**less, 1: (1, 1)}}, {("a", "b"): TABLE, ("b", "a"): TABLE},
               {("a", "b"): TABLE, ("b", "c"): {("l", "u"): (1, 1)}}, {("a", "b"): TABLE, 1: {}}, {("a", "b"): TABLE, None: TABLE},
               {("a", "b"): TABLE, ("b", "c"): {("u", "l"): (1, 1), ("u", "r"): (1, 1)}}, {frozenset("ab"): TABLE},
               {("a", "a"): {("l",): (1, 1), ("r",): (1, 1)}}, {("a", "b"): meet()}, [(("a", "b"), TABLE)], [], (), None, {("a", ("b",)): TABLE}, {("a", b"b"): TABLE}]
        for tables in [thing for thing in odd_values() if thing != {} or not isinstance(thing, dict)] + bad:
            self.wrong_at(1, Ties, three, tables)
        for value in odd_values():
            self.wrong_at(1, Ties, three, {("a", "b"): value})
            self.wrong_at(1, Ties, three, {("a", "b"): {**TABLE, ("r", "r"): value}})
        self.wrong_at(1, Ties, {"a": ["l", "r"]}, {("a", "b"): TABLE})

    def test_pairs_that_are_none(self):
        draw = drawing(63)
        shape = shape_of((2, 2, 2))
        ties = Ties(shape, {("ann", "bob"): any_table(draw, shape, ("ann", "bob"))})
        for pair in odd_values() + [["ann", "bob"], ("bob", "ann"), ("ann", "cid"), ("ann", "ann"), ("ann",), "ann",
                                    ("ann", "bob", "cid"), ("ann", ["bob"]), ({}, "bob")]:
            for call in (ties.table, ties.tie_game):
                self.assertIs(self.raised(NoPair, call, pair).pair, pair)

    def test_choosers_that_are_none(self):
        ties = one_tie()
        for name in odd_values() + ["c", "l", ("a", "b")]:
            if name not in ["a", "b"]:
                self.assertIs(self.raised(NoChooser, ties.neighbours, name).name, name)
        self.assertEqual(ties, one_tie())


class Copies(Checks):
    def test_what_is_handed_in_is_copied(self):
        ways = {"b": ["r", "l"], "a": ["l", "r"]}
        tables = {("a", "b"): {place: list(TABLE[place]) for place in reversed(TABLE)}}
        before = repr((ways, tables))
        ties = Ties(ways, tables)
        self.assertEqual(repr((ways, tables)), before)
        tables[("a", "b")][("l", "l")][0] = 99
        tables[("a", "b")].pop(("r", "r"))
        tables.clear()
        ways["a"].append("x")
        ways["c"] = ["u"]
        self.assertEqual(ties, one_tie())
        self.exact(ties.table(("a", "b")), TABLE)
        self.assertEqual(ties.game(), meet())

    def test_what_is_returned_is_new(self):
        ties = one_tie()
        for ask in (ties.pairs, lambda: ties.table(("a", "b")), lambda: ties.neighbours("a"), ties.bad_ties):
            before = repr(ask())
            ask().clear()
            self.assertEqual(repr(ask()), before)
        ties.bad_ties().append("x")
        self.exact(ties.bad_ties(), [])
        ties.table(("a", "b"))[("l", "l")] = (5, 5)
        self.exact(ties.table(("a", "b")), TABLE)
        self.assertEqual(ties, one_tie())

    def test_equal(self):
        draw = drawing(64)
        for sizes in SOME_SIZES:
            shape, tables = shape_of(sizes), any_tables(draw, sizes, 6)
            ties = Ties(shape, tables)
            same = Ties({chooser: tuple(reversed(shape[chooser])) for chooser in reversed(shape)},
                        {pair: {place: tuple(tables[pair][place]) for place in reversed(tables[pair])} for pair in reversed(tables)})
            self.assertIs(ties == same, True)
            self.assertIs(ties != same, False)
            for pair in tables:
                place = draw.choice(list(tables[pair]))
                for change in ((1, 0), (0, -1)):
                    gains = [tables[pair][place][0] + change[0], tables[pair][place][1] + change[1]]
                    other = Ties(shape, {**tables, pair: {**tables[pair], place: gains}})
                    self.assertIs(ties == other, False)
                    self.assertIs(ties != other, True)
                fewer = {other: tables[other] for other in tables if other != pair}
                self.assertIs(ties == Ties(shape, fewer), False)
        # A tie by which nobody gains is a tie all the same.
        self.assertIs(Ties(PLAIN, {}) == Ties(PLAIN, {("a", "b"): {place: (0, 0) for place in TABLE}}), False)
        self.assertIs(Ties(PLAIN, {}) == Ties({"a": ["l", "r"]}, {}), False)
        self.assertIs(Ties(PLAIN, {}) == Ties({"a": ["l", "r"], "c": ["l", "r"]}, {}), False)

    def test_equal_to_nothing_else(self):
        ties = one_tie()
        for thing in odd_values() + [PLAIN, {("a", "b"): TABLE}, ties.game(), two_roads(), any_game(drawing(65), (2, 2))]:
            if not isinstance(thing, Ties):
                self.assertIs(ties == thing, False)
                self.assertIs(ties != thing, True)
                self.assertIs(thing == ties, False)


if __name__ == "__main__":
    unittest.main()
