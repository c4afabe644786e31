"""Points 91 and 11: two games side by side."""

import unittest
from fractions import Fraction

from heightgames.betterings import rests
from heightgames.climbs import climb, lengths
from heightgames.errors import Clash, NoStanding, TooWide
from heightgames.far import calm, far
from heightgames.games import Game
from heightgames.heights import height, is_height
from heightgames.joined import beside, sides
from heightgames.parts import lots
from tests.samples import (
    GREAT, MAKERS, Checks, any_game, climbing_game, drawing, flee, lone, meet, odd_values, steep_game,
)

PAIRS = [((1,), (1,)), ((2,), (3,)), ((4, 4), (4,)), ((1, 1), (1, 1)), ((3, 3), (3, 3)), ((2, 1), (4, 2)), ((3,), (3, 3, 3)),
         ((2, 2, 2), (4,)), ((1,), (4, 4, 4))]
NAMES = ("ann", "bob", "cid", "dora")


def named(draw, game, names):
    """The game with other names of choosers, in the same order."""
    shape = {name: game.ways(chooser) for name, chooser in zip(names, game.choosers())}
    return Game(shape, {standing: game.gains(standing) for standing in game})


def apart(draw, game, other):
    """Both games with names such that the choosers of the two stand mixed."""
    mine = sorted(draw.sample(NAMES[:len(game.choosers()) + len(other.choosers())], len(game.choosers())))
    yours = [name for name in NAMES[:len(game.choosers()) + len(other.choosers())] if name not in mine]
    return named(draw, game, mine), named(draw, other, yours)


class Beside(Checks):
    def pairs(self, draw):
        for sizes, others in PAIRS:
            for make in MAKERS:
                yield apart(draw, make(draw, sizes, 9), draw.choice(MAKERS)(draw, others, GREAT))

    def test_gains_and_sides(self):
        draw = drawing(1401)
        mixed = set()
        for one, other in self.pairs(draw):
            both = self.unchanged(beside, one, other)
            self.exact(both.choosers(), sorted(one.choosers() + other.choosers()))
            self.exact(both.shape(), {name: (one if name in one.choosers() else other).ways(name) for name in both.choosers()})
            mixed.add(both.choosers() == one.choosers() + other.choosers())
            for standing in both:
                way_of = dict(zip(both.choosers(), standing))
                mine = tuple(way_of[name] for name in one.choosers())
                yours = tuple(way_of[name] for name in other.choosers())
                self.exact(sides(one, other, standing), (mine, yours))
                for name in both.choosers():
                    self.exact(both.gain(name, standing), one.gain(name, mine) if name in one.choosers() else other.gain(name, yours))
            self.assertEqual(beside(other, one), both)
            self.exact(sides(other, one, both.standings()[-1]), sides(one, other, both.standings()[-1])[::-1])
        self.assertEqual(mixed, {True, False})

    def test_rests_heights_rows_and_far(self):
        draw = drawing(1402)
        heights_seen, climbs_seen = set(), set()
        some = [apart(draw, steep_game(draw, sizes), steep_game(draw, others)) for sizes, others in PAIRS]
        some += [apart(draw, climbing_game(draw, sizes), climbing_game(draw, others)) for sizes, others in PAIRS]
        for one, other in list(self.pairs(draw))[::3] + some + [(meet(), lone()), (flee(), lone())]:
            both = beside(one, other)
            parts = {standing: sides(one, other, standing) for standing in both}
            quiet = [standing for standing in both if parts[standing][0] in rests(one) and parts[standing][1] in rests(other)]
            self.exact(rests(both), quiet)
            heights_seen.add(height(both) is not None)
            self.assertIs(height(both) is None, height(one) is None or height(other) is None)
            for call in (height, climb):
                mine, yours = call(one), call(other)
                if mine is not None and yours is not None:
                    self.exact(call(both), {place: mine[parts[place][0]] + yours[parts[place][1]] for place in both})
                else:
                    self.assertIs(call(both), None)
            climbs_seen.add(climb(both) is not None)
            if height(both) is not None:
                self.truth(is_height(both, height(both)), True)
            mine, yours, found = lengths(one), lengths(other), lengths(both)
            for place, (first, second) in parts.items():
                self.exact(found[place], None if None in (mine[first], yours[second]) else mine[first] + yours[second])
            self.exact(far(both), max(far(one), far(other), key=lambda amount: Fraction(*amount)))
            self.exact(calm(both), max(calm(one), calm(other)))
            self.exact(lots(both), sorted(lots(one) + lots(other)))
        self.assertEqual((heights_seen, climbs_seen), ({True, False}, {True, False}))

    def test_the_document(self):
        self.exact(lots(beside(meet(), lone())), [["a", "b"], ["c"]])
        self.exact(sides(meet(), lone(), ("l", "r", "u")), (("l", "r"), ("u",)))


class Errors(Checks):
    def test_clash(self):
        draw = drawing(1411)
        for many, others, least in (("a", "a", "a"), ("ab", "ab", "a"), ("ab", "bc", "b"), ("bcd", "acd", "c"), ("abcd", "d", "d")):
            one = named(draw, any_game(draw, (1,) * len(many)), many)
            other = named(draw, any_game(draw, (2,) * len(others)), others)
            for call, given in ((beside, (one, other)), (beside, (other, one)), (sides, (one, other, None)), (sides, (other, one, ()))):
                self.exact(self.raised(Clash, call, *given).name, least)
        # A clash comes ahead of what is too wide.
        wide = any_game(draw, (3, 3, 3, 3))
        self.exact(self.raised(Clash, beside, wide, wide).name, "ann")
        self.exact(self.raised(Clash, sides, wide, wide, None).name, "ann")

    def test_too_wide(self):
        draw = drawing(1412)
        for sizes, others, fits in (((1, 1, 1), (1, 1), False), ((1, 1, 1, 1), (1,), False), ((3, 3, 3), (3,), True), ((4, 4), (4, 2), False),
                                    ((4, 4, 4), (1,), True), ((4, 4, 4), (2,), False), ((3, 3), (3, 3), True), ((4, 4), (3, 2), False),
                                    ((4, 4), (1, 4), True), ((3, 3, 3), (4,), False), ((4, 4), (3, 1), True)):
            one = named(draw, any_game(draw, sizes), "abcd")
            other = named(draw, any_game(draw, others), "efgh")
            for first, second in ((one, other), (other, one)):
                if fits:
                    self.assertEqual(len(beside(first, second)), len(one) * len(other))
                else:
                    self.raised(TooWide, beside, first, second)
                    self.raised(TooWide, sides, first, second, None)
                    self.raised(TooWide, sides, first, second, ("l",))

    def test_what_is_no_standing(self):
        for thing in odd_values() + [("l", "l", "u", "u"), ("u", "l", "l"), (("l", "l"), ("u",)), ["l", "l", "u"]]:
            self.assertIs(self.raised(NoStanding, sides, meet(), lone(), thing).standing, thing)

    def test_sides_of_all_standings(self):
        both = beside(lone(), meet())
        self.exact([sides(lone(), meet(), standing) for standing in both],
                   [((way,), (one, other)) for one in "lr" for other in "lr" for way in "uv"])


if __name__ == "__main__":
    unittest.main()
