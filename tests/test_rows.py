"""Point 23: rows, rings and lines."""

import unittest

from heightgames.errors import NoLine, NoStanding, NoStep
from heightgames.rows import along, is_ring, led, line_of, lines, row_sum, walked
from tests.samples import (
    CHOOSERS, GREAT, SIZES, SOME_SIZES, Checks, any_game, drawing, flee, lone, meet, odd_values, rings, through, walk,
)

CALLS = (led, walked, row_sum)


class Rows(Checks):
    def test_rows(self):
        draw = drawing(11)
        for sizes in SOME_SIZES:
            game = any_game(draw, sizes, GREAT)
            for many in (0, 1, 2, 7, 200):
                start = draw.choice(game.standings())
                row = (start, walk(draw, game, start, many))
                places = through(row)
                total = 0
                for at, change in enumerate(row[1]):
                    seat = CHOOSERS.index(change[0])
                    total += game.gains(places[at + 1])[seat] - game.gains(places[at])[seat]
                lists = [list(start), [list(change) for change in row[1]]]
                for same in (row, lists, (list(start), tuple(row[1]))):
                    self.exact(self.unchanged(walked, game, same), places)
                    self.exact(self.unchanged(led, game, same), places[-1])
                    self.exact(self.unchanged(row_sum, game, same), total)

    def test_no_changes(self):
        for row in ((("l", "l"), []), [["l", "l"], ()]):
            self.exact(led(meet(), row), ("l", "l"))
            self.exact(walked(meet(), row), [("l", "l")])
            self.exact(row_sum(meet(), row), 0)
            self.assertIs(is_ring(meet(), row), False)

    def test_what_is_no_row(self):
        change = ("a", "r")
        bad = [(("l", "l"), [change], []), (("l", "l"),), ("ll", []), ((), []), (("l",) * 5, []), (("l", "l"), "ar"),
               (("l", "l"), [("a", "r", "r")]), (("l", "l"), [change, 1]), (("l", 1), []), (("l", "l"), None),
               (("x", "x"), [("a", "R")]), (("l", "l"), {change: 1})]
        for row in odd_values() + bad:
            # Of the odd values these alone have the form of a row.
            if row == (("l", "l"), ()) or row == [("l", "l"), []]:
                continue
            for call in CALLS:
                self.wrong_at(1, call, meet(), row)
            self.assertIs(is_ring(meet(), row), False)

    def test_200_changes_and_more(self):
        game = lone()
        row = (("u",), [("c", "v"), ("c", "u")] * 100)
        self.exact(led(game, row), ("u",))
        self.exact(len(walked(game, row)), 201)
        self.exact(row_sum(game, row), 0)
        self.assertIs(is_ring(game, row), True)
        longer = (("u",), row[1] + [("c", "v")])
        for call in CALLS:
            self.wrong_at(1, call, game, longer)
        longest = (("u",), row[1] + [("c", "v"), ("c", "u")])
        self.assertIs(is_ring(game, longest), False)
        self.wrong_at(1, row_sum, game, (("x",), longest[1]))

    def test_standings_that_are_none(self):
        for standing in (("l",), ("l", "x"), ("x", "l"), ("l", "l", "l"), ("a", "b"), ("l", "l", "l", "l")):
            for changes in ([], [("a", "r")], [("c", "c")]):
                for given in (standing, list(standing)):
                    for call in CALLS:
                        self.exact(self.raised(NoStanding, call, meet(), (given, changes)).standing, standing)
                    self.assertIs(is_ring(meet(), (given, changes)), False)

    def test_steps_that_cannot_be_done(self):
        bad = [([("a", "l")], 0), ([("a", "r"), ("a", "r")], 1), ([("a", "r"), ["b", "l"], ("c", "l")], 1),
               ([("c", "l")], 0), ([("a", "x")], 0), ([("b", "r"), ("a", "r"), ("b", "l"), ("a", "l"), ("b", "b")], 4)]
        for changes, index in bad:
            for call in CALLS:
                self.exact(self.raised(NoStep, call, meet(), (("l", "l"), changes)).index, index)
            self.assertIs(is_ring(meet(), (("l", "l"), changes)), False)
        last = [("a", "r"), ("a", "l")] * 99 + [("a", "r"), ("a", "r")]
        self.exact(self.raised(NoStep, led, meet(), (("l", "l"), last)).index, 199)

    def test_rings(self):
        draw = drawing(12)
        for sizes in SOME_SIZES:
            game = any_game(draw, sizes)
            for ring in rings(draw, game):
                self.assertIs(is_ring(game, ring), True)
                self.assertIs(is_ring(game, [list(ring[0]), [list(change) for change in ring[1]]]), True)
                self.assertIs(is_ring(game, (ring[0], ring[1][:-1])), through((ring[0], ring[1][:-1]))[-1] == tuple(ring[0])
                              and len(ring[1]) > 1)
        self.assertIs(is_ring(flee(), (("l", "l"), [("a", "r")])), False)
        self.assertIs(is_ring(flee(), (("l", "l"), [("a", "r"), ("a", "l")])), True)


class Lines(Checks):
    def test_lines(self):
        draw = drawing(13)
        for sizes in SIZES:
            game = any_game(draw, sizes)
            wanted = set()
            for standing in game:
                for at, chooser in enumerate(game.choosers()):
                    line = (chooser, standing[:at] + standing[at + 1:])
                    wanted.add(line)
                    self.exact(line_of(game, standing, chooser), line)
                    self.exact(along(game, line), [other for other in game if other[:at] + other[at + 1:] == line[1]])
            self.exact(lines(game), sorted(wanted))

    def test_one_chooser(self):
        self.exact(lines(lone()), [("c", ())])
        self.exact(line_of(lone(), ("v",), "c"), ("c", ()))
        self.exact(along(lone(), ("c", ())), [("u",), ("v",)])

    def test_what_is_no_line(self):
        bad = [["a", ("l",)], ("a", ["l"]), ("a", "l"), ("a", ("x",)), ("a", ()), ("a", ("l", "l")), ("c", ("l",)),
               ("a", ("l",), "l"), ("a",), (("a",), ("l",)), (["a"], ("l",)), ({}, ("l",)), ("a", (["l"],)), ("a", ({},)),
               ("a", (meet(),)), (meet(), ("l",)), ("a", {"l": 1}), "al", {"a": ("l",)}]
        for line in odd_values() + bad:
            self.assertIs(self.raised(NoLine, along, meet(), line).line, line)
        self.assertIs(self.raised(NoLine, along, lone(), bad[3]).line, bad[3])

    def test_what_is_returned_is_new(self):
        game = meet()
        row = [["l", "l"], [["a", "r"]]]
        for call, given in ((walked, row), (along, ("a", ("l",)))):
            before = repr(call(game, given))
            call(game, given).clear()
            self.assertEqual(repr(call(game, given)), before)
        lines(game).clear()
        self.exact(lines(game), [("a", ("l",)), ("a", ("r",)), ("b", ("l",)), ("b", ("r",))])
        places = walked(game, row)
        row[1].append(["b", "r"])
        self.exact(places, [("l", "l"), ("r", "l")])
        self.assertEqual(game, meet())


if __name__ == "__main__":
    unittest.main()
