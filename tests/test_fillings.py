"""Points 31 and 5: accounts, and rings that squares fill."""

import unittest

from heightgames.errors import NoRing, NoStanding, NoStep
from heightgames.fillings import account, filled, is_filling
from heightgames.rows import row_sum
from heightgames.squares import is_square, squares, sums
from tests.samples import (
    GREAT, SOME_SIZES, Checks, any_game, drawing, flee, lone, meet, odd_values, rings, shape_of, through, walk,
)

ROUND = (("l", "l"), [("b", "r"), ("a", "r"), ("b", "l"), ("a", "l")])
CORNER = (("l", "l"), "a", "b", "r", "r")


def wanted_account(row):
    """The account of a row, counted place by place."""
    places = through(row)
    keys = [(change[0], place) for at, change in enumerate(row[1]) for place in (places[at], places[at + 1])]
    found = {}
    for key in sorted(set(keys)):
        number = 0
        for at, change in enumerate(row[1]):
            number += (change[0], places[at + 1]) == key
            number -= (change[0], places[at]) == key
        if number:
            found[key] = number
    return found


class Accounts(Checks):
    def test_accounts(self):
        draw = drawing(31)
        for sizes in SOME_SIZES:
            game = any_game(draw, sizes)
            flat = game.times(0)
            for many in (0, 1, 2, 3, 9, 60, 200):
                start = draw.choice(game.standings())
                row = (start, walk(draw, game, start, many))
                wanted = wanted_account(row)
                for same in (row, [list(start), tuple(list(change) for change in row[1])]):
                    self.exact(self.unchanged(account, game, same), wanted)
                self.exact(account(flat, row), wanted)
                self.assertEqual(sum(number * game.gain(*key) for key, number in wanted.items()), row_sum(game, row))
                self.assertNotIn(0, wanted.values())

    def test_noughts_are_left_out(self):
        self.exact(account(meet(), (("l", "l"), [])), {})
        self.exact(account(meet(), (("l", "l"), [("a", "r"), ("a", "l")])), {})
        self.exact(account(meet(), (("l", "l"), [("a", "r"), ("b", "r"), ("b", "l")])),
                   {("a", ("l", "l")): -1, ("a", ("r", "l")): 1})
        self.exact(account(lone(), (("u",), [("c", "v")] + [("c", "u"), ("c", "v")] * 9)), {("c", ("u",)): -1, ("c", ("v",)): 1})
        twice = (("l", "l"), ROUND[1] * 2)
        self.exact(account(meet(), twice), {key: 2 * number for key, number in account(meet(), ROUND).items()})

    def test_rows_that_are_wrong(self):
        for row in odd_values() + [(("l", "l"), [("a", "r")] * 201), (("x", "y"), [("a",)])]:
            if row == (("l", "l"), ()) or row == [("l", "l"), []]:
                continue
            self.wrong_at(1, account, meet(), row)
        self.exact(self.raised(NoStanding, account, meet(), [["l"], [("a", "l")]]).standing, ("l",))
        self.exact(self.raised(NoStep, account, meet(), (("l", "l"), [("a", "r"), ("a", "r"), ("x", "x")])).index, 1)

    def test_an_account_is_new(self):
        account(meet(), ROUND).clear()
        self.exact(account(meet(), ROUND), wanted_account_of_plain(ROUND))


def wanted_account_of_plain(row):
    """The account of a row of the plain shape, by the shape of the samples."""
    back = {"ann": "a", "bob": "b", "aeast": "l", "anorth": "r", "beast": "l", "bnorth": "r"}
    there = {("a", "l"): "aeast", ("a", "r"): "anorth", ("b", "l"): "beast", ("b", "r"): "bnorth"}
    start = (there[("a", row[0][0])], there[("b", row[0][1])])
    changes = [({"a": "ann", "b": "bob"}[chooser], there[(chooser, way)]) for chooser, way in row[1]]
    found = wanted_account((start, changes))
    return {(back[chooser], tuple(back[way] for way in standing)): number for (chooser, standing), number in found.items()}


class Fillings(Checks):
    def test_rings_are_filled(self):
        draw = drawing(32)
        seen = set()
        for sizes in SOME_SIZES:
            game = any_game(draw, sizes, GREAT)
            known = squares(game)
            for ring in [ring for _ in range(4) for ring in rings(draw, game)]:
                self.assertLessEqual(len(ring[1]), 60)
                filling = self.unchanged(filled, game, ring)
                self.assertIs(filling.__class__, list)
                self.assertLessEqual(len(filling), len(ring[1]) ** 2)
                total = 0
                for item in filling:
                    self.assertIs(item.__class__, tuple)
                    self.assertIn(item[0], known)
                    self.exact(item[0], known[known.index(item[0])])
                    self.assertIn(repr(item[1]), ("1", "-1"))
                    total += item[1] * sum(sums(game, item[0]))
                self.assertEqual(total, row_sum(game, ring))
                self.assertIs(self.unchanged(is_filling, game, ring, filling), True)
                lists = tuple([[list(square[0])] + list(square[1:]), sign] for square, sign in filling)
                self.assertIs(self.unchanged(is_filling, game, ring, lists), True)
                self.assertIs(is_filling(game, ring, []), wanted_account(ring) == {})
                if known:
                    extra = draw.choice(known)
                    self.assertIs(is_filling(game, ring, filling + [(extra, 1)]), False)
                    self.assertIs(is_filling(game, ring, filling + [(extra, -1), (extra, 1)]), True)
                if wanted_account(ring):
                    turned = [(square, -sign) for square, sign in filling]
                    self.assertIs(is_filling(game, ring, turned), False)
                    self.assertIs(is_filling(game, ring, filling[:-1]), False)
                seen.add((len(ring[1]) > 56, filling == []))
        self.assertEqual(len(seen), 4)

    def test_a_filling_holds_for_all_gains(self):
        draw = drawing(33)
        for sizes in ((2, 2), (3, 1, 2), (2, 3, 2), (3, 3, 3, 3)):
            game = any_game(draw, sizes)
            for ring in rings(draw, game):
                filling = filled(game, ring)
                for _ in range(3):
                    other = any_game(draw, sizes)
                    self.assertEqual(filled(other, ring), filling)
                    self.assertIs(is_filling(other, ring, filling), True)
                    self.assertEqual(sum(sign * sum(sums(other, square)) for square, sign in filling),
                                     row_sum(other, ring))

    def test_one_square(self):
        for game in (meet(), flee()):
            self.exact(filled(game, (("l", "l"), [("a", "r"), ("b", "r"), ("a", "l"), ("b", "l")])), [(CORNER, 1)])
            self.exact(filled(game, ROUND), [(CORNER, -1)])
            self.assertIs(is_filling(game, ROUND, [(CORNER, -1)]), True)
            self.assertIs(is_filling(game, ROUND, (([["l", "l"], "a", "b", "r", "r"], -1),)), True)
            self.assertIs(is_filling(game, ROUND, [[CORNER, -1], [CORNER, -1], [CORNER, 1]]), True)

    def test_lines_need_no_square(self):
        self.exact(filled(lone(), (("u",), [("c", "v"), ("c", "u")])), [])
        self.assertIs(is_filling(lone(), (("u",), [("c", "v"), ("c", "u")]), ()), True)
        self.assertIs(is_filling(lone(), (("u",), [("c", "v"), ("c", "u")]), []), True)

    def test_what_is_no_filling(self):
        bad = [[(CORNER, 1)], [(CORNER, -2)], [(CORNER, 0)], [(CORNER, True)], [(CORNER, False)], [(CORNER, "-1")],
               [(CORNER, None)], [(CORNER, [-1])], [(CORNER,)], [(CORNER, -1, -1)], [CORNER], (CORNER, -1), [-1, CORNER],
               {(CORNER, -1)}, {CORNER: -1}, [{0: CORNER, 1: -1}], [(CORNER, -1), (CORNER, -1)], [(CORNER, -1), None],
               [(CORNER, -1), (CORNER, 2), (CORNER, -2)], [(CORNER, -1), (CORNER, 0)], [(CORNER, -1), []],
               [((("r", "l"), "a", "b", "r", "r"), -1)], [((("l", "l"), "b", "a", "r", "r"), 1)], "ab", [], (),
               [((("l", "l"), "a", "b", "r"), -1)], [(("ll", "a", "b", "r", "r"), -1)], [((["l", {}], "a", "b", "r", "r"), -1)]]
        for thing in odd_values() + bad:
            self.assertIs(is_filling(flee(), ROUND, thing), False)
        other_way = (("l", "l"), [("a", "r"), ("b", "r"), ("a", "l"), ("b", "l")])
        self.assertIs(is_filling(flee(), other_way, [(CORNER, 1)]), True)
        for sign in (True, "1", None, [1], (1,), -1):
            self.assertIs(is_filling(flee(), other_way, [(CORNER, sign)]), False)
        flat = (("l", "l"), [("a", "r"), ("a", "l")])
        for thing in odd_values() + bad[2:24]:
            self.assertIs(is_filling(flee(), flat, thing), thing == [] or thing == ())

    def test_what_is_no_ring(self):
        bad = [(("l", "l"), []), (("l", "l"), [("a", "r")]), (("l", "l"), [("a", "r"), ("a", "r")]),
               (("l", "l"), [("a", "l")]), (("x", "l"), ROUND[1]), (("l", "l"), [("a", "r"), ("a", "l")] * 101),
               (("l", "l"), ROUND[1][:3]), ("ll", ROUND[1]), {ROUND[0]: ROUND[1]}]
        for ring in odd_values() + bad:
            self.assertIs(self.raised(NoRing, filled, meet(), ring).ring, ring)
            for thing in (None, [], [(CORNER, 1)], {}):
                self.assertIs(self.raised(NoRing, is_filling, meet(), ring, thing).ring, ring)

    def test_many_squares(self):
        # As many squares as a filling of a ring of sixty changes may have.
        game = any_game(drawing(34), (3, 3, 3, 3))
        start = ("aeast", "beast", "ceast", "deast")
        corner = (start, "ann", "bob", "anorth", "bnorth")
        ring = (start, [("ann", "anorth"), ("bob", "bnorth"), ("ann", "aeast"), ("bob", "beast")])
        filling = [(corner, 1)] + [(corner, sign) for sign in (1, -1)] * 1700
        self.assertIs(is_filling(game, ring, filling), True)
        self.assertIs(is_filling(game, ring, filling + [(corner, -1)]), False)

    def test_a_filling_is_new(self):
        game = any_game(drawing(35), (2, 2))
        self.assertIs(is_square(game, (("aeast", "beast"), "ann", "bob", "anorth", "bnorth")), True)
        self.assertEqual(shape_of((2, 2)), game.shape())
        filled(flee(), ROUND).clear()
        self.exact(filled(flee(), ROUND), [(CORNER, -1)])


if __name__ == "__main__":
    unittest.main()
