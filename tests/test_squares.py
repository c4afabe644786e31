"""Point 30: squares. Point 5: squares tell whether there is a height by steps."""

import itertools
import unittest

from heightgames.errors import NoSquare
from heightgames.rows import is_ring, row_sum
from heightgames.squares import bad_pairs, bad_square, is_square, ring_of, squares, sums
from tests.samples import (
    CHOOSERS, GREAT, SIZES, SOME_SIZES, Checks, any_game, bent_game, drawing, flee, lone, meet, odd_values, shape_of,
    standings_of, steep_game, through,
)


def wanted_squares(sizes):
    """All squares of a shape, ascending."""
    shape = shape_of(sizes)
    found = []
    for standing in standings_of(shape):
        for (at, one), (by, other) in itertools.combinations(enumerate(sorted(shape)), 2):
            for first, second in itertools.product(shape[one], shape[other]):
                if first > standing[at] and second > standing[by]:
                    found.append((standing, one, other, first, second))
    return sorted(found)


def wanted_sums(game, square):
    """The sums of a square, by the gains at its corners."""
    standing, one, other, first, second = square
    places = through((standing, [(one, first), (other, second), (one, standing[CHOOSERS.index(one)])]))
    by_one = [game.gain(one, place) for place in places]
    by_other = [game.gain(other, place) for place in places]
    return (by_one[1] - by_one[0] + by_one[3] - by_one[2], by_other[2] - by_other[1] + by_other[0] - by_other[3])


class Squares(Checks):
    def test_all_squares(self):
        draw = drawing(21)
        for sizes in SIZES:
            self.exact(squares(any_game(draw, sizes)), wanted_squares(sizes))
        self.assertEqual(len(wanted_squares((3, 3, 3, 3))), 6 * 9 * 9)
        self.exact(squares(lone()), [])
        self.exact(squares(meet()), [(("l", "l"), "a", "b", "r", "r")])

    def test_rings_and_sums(self):
        draw = drawing(22)
        for sizes in SOME_SIZES:
            game = any_game(draw, sizes, GREAT)
            for square in wanted_squares(sizes):
                standing, one, other, first, second = square
                ring = (standing, [(one, first), (other, second), (one, standing[CHOOSERS.index(one)]),
                                   (other, standing[CHOOSERS.index(other)])])
                total = wanted_sums(game, square)
                for same in (square, [list(standing), one, other, first, second]):
                    self.assertIs(is_square(game, same), True)
                    self.exact(ring_of(game, same), ring)
                    self.exact(sums(game, same), total)
                self.assertIs(is_ring(game, ring), True)
                self.assertEqual(row_sum(game, ring), sum(total))

    def test_what_is_no_square(self):
        game = any_game(drawing(23), (3, 2, 1))
        start = ("anorth", "beast", "ceast")
        self.assertIs(is_square(game, (start, "ann", "bob", "asouth", "bnorth")), True)
        bad = [(start, "ann", "bob", "anorth", "bnorth"), (start, "ann", "bob", "aeast", "bnorth"),
               (start, "ann", "bob", "asouth", "beast"), (start, "bob", "ann", "bnorth", "asouth"),
               (start, "bob", "ann", "asouth", "bnorth"), (start, "ann", "ann", "asouth", "asouth"),
               (start, "ann", "bob", "bnorth", "asouth"), (start, "ann", "dora", "asouth", "bnorth"),
               (start, "ada", "bob", "asouth", "bnorth"), (start, "ann", "bob", "awest", "bnorth"),
               (start, "ann", "bob", "asouth", "bsouth"), (start, "ann", "cid", "asouth", "ceast"),
               (start[:2], "ann", "bob", "asouth", "bnorth"), (start + start[:1], "ann", "bob", "asouth", "bnorth"),
               (("axe",) + start[1:], "ann", "bob", "asouth", "bnorth"), ("anorth", "ann", "bob", "asouth", "bnorth"),
               (start, "ann", "bob", "asouth"), (start, "ann", "bob", "asouth", "bnorth", "ceast"),
               (start, ["ann"], "bob", "asouth", "bnorth"), (start, "ann", {}, "asouth", "bnorth"),
               (start, "ann", "bob", ["asouth"], "bnorth"), (start, "ann", "bob", "asouth", {}),
               (start, "ann", "bob", "asouth", game), (start, 1, 2, 3, 4), (start, "ann", "bob", None, None),
               (start, game, "bob", "asouth", "bnorth"), ((start[0], [], {}), "ann", "bob", "asouth", "bnorth"),
               ({word: 1 for word in start}, "ann", "bob", "asouth", "bnorth"), (None, "ann", "bob", "asouth", "bnorth"),
               {at: part for at, part in enumerate((start, "ann", "bob", "asouth", "bnorth"))}, "abcde", b"abcde"]
        for thing in odd_values() + bad:
            self.assertIs(is_square(game, thing), False)
            self.assertIs(is_square(meet(), thing), False)
            self.assertIs(self.raised(NoSquare, ring_of, game, thing).square, thing)
            self.assertIs(self.raised(NoSquare, sums, game, thing).square, thing)

    def test_no_square_of_one_chooser(self):
        self.raised(NoSquare, sums, lone(), (("u",), "c", "c", "v", "v"))
        self.assertIs(bad_square(lone()), None)
        self.exact(bad_pairs(lone()), [])

    def test_bad_squares_and_pairs(self):
        draw = drawing(24)
        seen = set()
        for sizes in SOME_SIZES:
            for make in (steep_game, bent_game, any_game):
                for bound in (1, 9, GREAT):
                    game = make(draw, sizes, bound)
                    bad = [square for square in wanted_squares(sizes) if sum(wanted_sums(game, square)) != 0]
                    self.exact(self.unchanged(bad_square, game), bad[0] if bad else None)
                    self.exact(self.unchanged(bad_pairs, game), sorted({square[1:3] for square in bad}))
                    seen.add((make is steep_game, bool(bad)))
        self.assertEqual(seen, {(True, False), (False, True), (False, False)})

    def test_the_least_bad_square(self):
        # The only bad squares are those around the last standing.
        game = steep_game(drawing(25), (3, 3, 2))
        last = game.standings()[-1]
        gains = list(game.gains(last))
        gains[2] += 1
        self.exact(bad_square(game), None)
        bent = game.with_gains(last, gains)
        self.exact(bad_square(bent), (("aeast", "bsouth", "ceast"), "ann", "cid", "asouth", "cnorth"))
        self.exact(bad_pairs(bent), [("ann", "cid"), ("bob", "cid")])

    def test_the_document(self):
        self.exact(bad_pairs(flee()), [("a", "b")])
        self.exact(bad_pairs(meet()), [])
        self.exact(sums(meet(), (("l", "l"), "a", "b", "r", "r")), (-3, 3))

    def test_what_is_returned_is_new(self):
        game = flee()
        square = [["l", "l"], "a", "b", "r", "r"]
        for call in (squares, bad_pairs):
            before = repr(call(game))
            call(game).clear()
            self.assertEqual(repr(call(game)), before)
        ring = self.unchanged(ring_of, game, square)
        self.unchanged(sums, game, square)
        ring[1].clear()
        self.exact(ring_of(game, square), (("l", "l"), [("a", "r"), ("b", "r"), ("a", "l"), ("b", "l")]))


if __name__ == "__main__":
    unittest.main()
