"""Points 80 and 8: how far a game is from a height."""

import math
import unittest
from fractions import Fraction

from heightgames.betterings import is_bettering_ring
from heightgames.climbs import climb
from heightgames.far import calm, calm_ring, far, far_ring, is_far, is_near, near_height, over_ranks
from heightgames.games import Game
from heightgames.heights import height
from heightgames.rows import is_ring, row_sum
from tests.reference import graph, most_to, moves, ring_size
from tests.samples import (
    GREAT, PLAIN, SIZES, Checks, any_game, bent_game, climbing_game, drawing, flat_game, flee, games, lone, meet,
    not_numbers, not_rings, odd_values, rings, same_rings, side_by_side, small_and_great_games, steep_game, through,
    turned_about, weighted_game,
)


def rings_of(game):
    """All rings of a game that come through no standing twice, as tuples (sum, number of changes, least own gain)."""
    own = {standing: {} for standing in game}
    for standing, _, goal, gain in moves(game):
        own[standing][goal] = gain
    found = []

    def go(start, here, seen, total, least):
        for goal in own[here]:
            gain = own[here][goal]
            low = gain if least is None else min(least, gain)
            if goal == start:
                found.append((total + gain, len(seen), low))
            elif goal > start and goal not in seen:
                go(start, goal, seen | {goal}, total + gain, low)

    for start in game:
        go(start, start, {start}, 0, None)
    return found


def is_ring_of_moves(game, ring):
    """The own gains along a ring, or None."""
    own = {(standing, change): gain for standing, change, _, gain in moves(game)}
    here, gains = ring[0], []
    for change in ring[1]:
        gains.append(own[(here, change)])
        here = game.goal(here, change)
    return gains if here == ring[0] and gains else None


def errors_of(game, numbers, bottom):
    """How much the rises of numbers differ from bottom times the own gains."""
    return [abs(numbers[goal] - numbers[standing] - bottom * own) for standing, _, goal, own in moves(game)]


class Far(Checks):
    def check(self, game):
        """Check far, its ring and its height, which together leave no other amount."""
        amount = self.unchanged(far, game)
        ring, numbers = far_ring(game), near_height(game)
        self.assertIs(amount.__class__, tuple)
        top, bottom = amount
        self.assertTrue(top >= 0 and bottom >= 1 and math.gcd(top, bottom) == 1)
        self.assertIs(amount == (0, 1), height(game) is not None)
        self.assertIs(ring is None, amount == (0, 1))
        if ring is not None:
            gains = is_ring_of_moves(game, ring)
            self.assertEqual(Fraction(sum(gains), len(gains)), Fraction(top, bottom))
            self.truth(is_far(game, amount, ring), True)
            self.truth(is_far(game, (top * 3 + 1, bottom * 3), ring), False)
        self.exact(list(numbers), game.standings())
        self.exact(numbers[game.standings()[0]], 0)
        self.assertTrue(all(number.__class__ is int for number in numbers.values()))
        self.assertTrue(max(errors_of(game, numbers, bottom), default=0) <= top)
        self.truth(is_near(game, amount, numbers), True)
        if amount == (0, 1):
            self.exact(numbers, height(game))
        else:
            for less in ((top - 1, bottom), (top * 7 - 1, bottom * 7)):
                self.truth(is_near(game, less, {standing: numbers[standing] * less[1] // bottom for standing in numbers}), False)
        # Betterings of a greater own gain than far never make a ring.
        self.assertIsNot(over_ranks(game, top // bottom), None)
        self.assertLessEqual(calm(game), top // bottom)
        return amount

    def test_all_rings_of_small_games(self):
        draw = drawing(1001)
        seen = set()
        for sizes in ((1,), (4,), (1, 3), (2, 2), (2, 3), (2, 4), (3, 3), (2, 2, 2), (1, 3, 2), (2, 1, 2, 1)):
            for make in (any_game, bent_game, steep_game, weighted_game):
                for bound in (1, 2, 9, GREAT):
                    game = make(draw, sizes, bound)
                    found = rings_of(game)
                    most = max([Fraction(total, many) for total, many, _ in found], default=Fraction(0))
                    self.exact(self.check(game), (most.numerator, most.denominator))
                    seen.add(most.denominator)
                    wanted = max([low for _, _, low in found if low > 0], default=0)
                    self.exact(calm(game), wanted)
        self.assertLessEqual({1, 2, 3, 4, 6}, seen)

    def test_all_shapes(self):
        draw = drawing(1002)
        for sizes in SIZES[::9]:
            self.check(any_game(draw, sizes, 99))

    def test_all_kinds_of_games(self):
        seen = {self.check(game) == (0, 1) for game in small_and_great_games(drawing(1003))}
        self.assertEqual(seen, {True, False})

    def test_side_by_side(self):
        draw = drawing(1004)
        for one, other in ((flee(), meet()), (flee(), flee().times(3)), (any_game(draw, (3, 2)), any_game(draw, (2, 3))),
                           (any_game(draw, (3,)), any_game(draw, (3, 3)))):
            both = self.check(side_by_side(one, other))
            self.assertEqual(Fraction(*both), max(Fraction(*far(one)), Fraction(*far(other))))

    def test_extras_and_factors(self):
        draw = drawing(1005)
        for sizes in ((2, 2), (3, 2), (2, 2, 2)):
            game = any_game(draw, sizes)
            top, bottom = far(game)
            self.exact(far(game.with_extra("ann", game.standings()[0][1:], GREAT)), (top, bottom))
            self.assertEqual(Fraction(*far(game.times(6))), 6 * Fraction(top, bottom))
            self.exact(far(game.times(-1)), (top, bottom))
            self.exact(far(game.plus(steep_game(draw, sizes, GREAT))), (top, bottom))

    def test_edges(self):
        draw = drawing(1006)
        for game in (lone(), Game({"a": ["l"]}, {("l",): [7]}), any_game(draw, (4,), GREAT), any_game(draw, (1, 4)),
                     any_game(draw, (1, 1, 1, 1)), any_game(draw, (1, 1, 4), 1), flat_game(draw, (3, 3, 3, 3))):
            self.exact(self.check(game), (0, 1))
            self.exact(far_ring(game), None)
            self.exact(near_height(game), height(game))
            self.exact(calm(game), 0)
            self.exact(calm_ring(game), None)
        game = Game(PLAIN, {("l", "l"): (0, 0), ("l", "r"): (0, 0), ("r", "l"): (0, 0), ("r", "r"): (0, -3)})
        self.exact(self.check(game), (3, 4))
        self.assertEqual(len(far_ring(game)[1]), 4)

    def test_the_document(self):
        self.exact([far(meet()), far(flee()), calm(meet()), calm(flee()), near_height(meet()) == height(meet())],
                   [(0, 1), (1, 1), 0, 1, True])
        self.assertEqual(len(far_ring(flee())[1]), 4)

    def test_what_is_returned_is_new(self):
        for game in (meet(), flee(), any_game(drawing(1007), (3, 2))):
            for call in (far, far_ring, near_height, calm, calm_ring):
                self.new_each_time(call, game)
            for number in (0, 1, 99):
                self.new_each_time(over_ranks, game, number)


class IsFar(Checks):
    def test_rings_and_amounts(self):
        draw = drawing(1011)
        seen = set()
        for game in games(draw, ((2, 2), (3, 3), (2, 2, 2), (3, 1, 2)), (1, GREAT)):
            for ring in rings(draw, game):
                mean = Fraction(row_sum(game, ring), len(ring[1]))
                self.truth(is_ring(game, ring), True)
                for near in (mean, mean + 1, mean - 1, mean + Fraction(1, 10 ** 70), mean - Fraction(1, 10 ** 70), Fraction(0)):
                    if near >= 0:
                        self.truth(is_far(game, (near.numerator, near.denominator), ring), mean >= near)
                        seen.add((mean >= near, mean == near))
        self.assertEqual(seen, {(True, True), (True, False), (False, False)})

    def test_the_same_ring(self):
        draw = drawing(1012)
        for sizes in ((2, 2), (3, 2), (2, 2, 2), (3, 3, 3)):
            game = any_game(draw, sizes)
            ring, amount = far_ring(game), far(game)
            for same in same_rings(game, ring):
                self.truth(self.unchanged(is_far, game, amount, same), True)
                self.truth(is_far(game, (0, 1), same), True)
            for thing in not_rings(ring):
                self.truth(is_far(game, (0, 1), thing), False)
            self.truth(is_far(game, amount, turned_about(ring)), False)
            self.truth(is_far(game, (0, 1), turned_about(ring)), False)
            self.assertEqual(through(ring)[0], through(ring)[-1])

    def test_what_is_no_ring(self):
        for thing in odd_values() + [(("l", "l"), [])]:
            for game in (flee(), meet(), lone()):
                for amount in ((0, 1), (1, 1), (GREAT, 7)):
                    self.truth(is_far(game, amount, thing), False)
        there = (("l", "l"), [("a", "r"), ("a", "l")])
        self.truth(is_far(meet(), (0, 1), there), True)
        self.truth(is_far(meet(), (1, GREAT), there), False)


class IsNear(Checks):
    def test_numbers_and_amounts(self):
        draw = drawing(1021)
        seen = set()
        for game in games(draw, ((3,), (2, 2), (3, 3), (2, 2, 2), (3, 1, 2)), (1, GREAT)):
            top, bottom = far(game)
            found = near_height(game)
            for more in (0, 1, -GREAT):
                moved = {standing: found[standing] + more for standing in reversed(found)}
                self.truth(self.unchanged(is_near, game, (top, bottom), moved), True)
            for standing in draw.sample(game.standings(), min(4, len(game))):
                for number in (-2, -1, 1, 2):
                    other = {**found, standing: found[standing] + number}
                    for slack in (0, 1, 2):
                        wanted = max(errors_of(game, other, bottom), default=0) <= top + slack
                        self.truth(is_near(game, (top + slack, bottom), other), wanted)
                        seen.add(wanted)
            self.truth(is_near(game, (top, bottom * 2), found), max(errors_of(game, found, bottom * 2), default=0) <= top)
        self.assertEqual(seen, {True, False})

    def test_only_far_is_both(self):
        draw = drawing(1022)
        for sizes in ((2, 2), (3, 2), (2, 2, 2)):
            game = any_game(draw, sizes)
            top, bottom = far(game)
            ring, found = far_ring(game), near_height(game)
            for many in (1, 2, 5):
                for step in (-1, 0, 1):
                    amount = (top * many + step, bottom * many)
                    numbers = {standing: found[standing] * many for standing in found}
                    both = is_far(game, amount, ring) and is_near(game, amount, numbers)
                    self.assertIs(both, step == 0)

    def test_what_is_no_height(self):
        zero = meet().times(0)
        nothing = {standing: 0 for standing in zero}
        self.truth(is_near(zero, (0, 1), nothing), True)
        for thing in odd_values() + not_numbers(nothing):
            for amount in ((0, 1), (GREAT, 1)):
                self.truth(is_near(zero, amount, thing), False)
                self.truth(is_near(flee(), amount, thing), False)
        still = Game({"a": ["l"]}, {("l",): [7]})
        self.truth(is_near(still, (0, 1), {("l",): -GREAT}), True)
        self.truth(is_near(still, (0, 1), {("l",): True}), False)


class Calm(Checks):
    def check(self, game):
        """Check calm and its ring, and over_ranks at, below and above own gains."""
        number, ring = self.unchanged(calm, game), calm_ring(game)
        self.assertIs(number.__class__, int)
        self.assertIs(ring is None, number == 0)
        self.assertIs(number == 0, climb(game) is not None)
        if ring is not None:
            gains = is_ring_of_moves(game, ring)
            self.assertGreaterEqual(min(gains), number)
            self.truth(is_bettering_ring(game, ring), True)
            # A ring of less than calm there is, so calm is the least.
            self.exact(over_ranks(game, number - 1), None)
        self.assertIsNot(over_ranks(game, number), None)
        own = sorted({move[3] for move in moves(game) if move[3] > 0})
        for near in sorted({0, number, max(0, number - 1), number + 1, *own[:2], *own[-2:], *[gain - 1 for gain in own[:1]],
                            *[gain + 1 for gain in own[-1:]]}):
            nexts = graph(game, [move for move in moves(game) if move[3] > near])
            found = self.unchanged(over_ranks, game, near)
            self.exact(found, most_to(nexts))
            self.assertIs(found is None, near < number)
        self.exact(over_ranks(game, 0), climb(game))
        return number > 0

    def test_all_kinds_of_games(self):
        draw = drawing(1031)
        seen = {self.check(game) for game in games(draw, ((1,), (4,), (2, 2), (3, 2), (2, 2, 2), (3, 3, 3)), (1, GREAT))}
        self.assertEqual(seen, {True, False})

    def test_great_games(self):
        draw = drawing(1032)
        for make in (any_game, climbing_game):
            self.check(make(draw, (3, 3, 3, 3), 9))

    def test_all_numbers(self):
        draw = drawing(1033)
        for sizes in ((2, 2), (3, 2), (2, 2, 2)):
            for _ in range(5):
                game = any_game(draw, sizes)
                number = calm(game)
                for other in range(20):
                    nexts = graph(game, [move for move in moves(game) if move[3] > other])
                    self.assertIs(ring_size(nexts) is None, other >= number)
                    self.exact(over_ranks(game, other), most_to(nexts))

    def test_edges(self):
        self.exact(over_ranks(lone(), 0), {("u",): 0, ("v",): 1})
        self.exact(over_ranks(lone(), 1), {("u",): 0, ("v",): 0})
        self.exact(over_ranks(flee(), 1), {standing: 0 for standing in flee()})
        self.exact(over_ranks(flee(), 0), None)
        self.exact(calm(flee().times(GREAT)), GREAT)
        self.exact(calm_ring(meet()), None)
        self.assertEqual(len(calm_ring(flee())[1]), 4)


if __name__ == "__main__":
    unittest.main()
