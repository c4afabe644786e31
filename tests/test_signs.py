"""Points 51, 2 and 7: heights by signs, levels, and weak rings."""

import unittest

from heightgames.games import Game
from heightgames.rows import is_ring
from heightgames.signs import is_sign_height, is_weak_ring, levels, sign_height, weak_ring
from heightgames.weights import weighted_height
from tests.reference import graph, moves, reach, ring_size, sign
from tests.samples import (
    GREAT, PLAIN, SIZES, SOME_SIZES, Checks, any_game, bent_game, drawing, flat_game, flee, games, lone, meet,
    not_numbers, not_rings, odd_values, rings, same_rings, side_by_side, signed_game, small_and_great_games,
    steep_game, through, turned_about, weighted_game,
)


def wanted_levels(game):
    """The levels, by what changes of own gain 0 reach."""
    nexts = graph(game, [move for move in moves(game) if move[3] == 0])
    found = []
    for standing in game.standings():
        if not any(standing in level for level in found):
            found.append(sorted(reach(nexts, standing) | {standing}))
    return found


def wanted_height(game):
    """The least height by signs, by raising numbers as long as one is too low, or None."""
    found = {standing: 0 for standing in game.standings()}
    climbing = [(standing, goal, sign(own)) for standing, _, goal, own in moves(game) if own >= 0]
    for _ in range(len(found) + 1):
        low = [(goal, found[standing] + step) for standing, goal, step in climbing if found[goal] < found[standing] + step]
        if not low:
            return found
        while low:
            for goal, number in low:
                found[goal] = max(found[goal], number)
            if max(found.values()) > len(found):
                return None
            low = [(goal, found[standing]) for standing, goal, step in climbing if step == 0 and found[goal] < found[standing]]
    return None


def holds(game, heights):
    """Whether numbers are a height by signs, by the definition."""
    return all(sign(heights[goal] - heights[standing]) == sign(own) for standing, _, goal, own in moves(game))


class Signs(Checks):
    def check(self, game):
        """Check all that is told of the signs of a game; return whether it has such a height."""
        self.exact(self.unchanged(levels, game), wanted_levels(game))
        wanted = wanted_height(game)
        found, ring = self.unchanged(sign_height, game), self.unchanged(weak_ring, game)
        self.exact(found, wanted)
        self.assertIs(found is None, ring is not None)
        if found is None:
            self.check_ring(game, ring)
        else:
            self.truth(is_sign_height(game, found), True)
            top = max(found.values())
            for standing, _, _, own in moves(game):
                self.assertTrue(found[standing] < top or own <= 0)
        return found is not None

    def check_ring(self, game, ring):
        places = through(ring)
        self.assertEqual(places[0], places[-1])
        gains = [own for at in range(len(ring[1])) for standing, change, _, own in moves(game)
                 if (standing, change) == (places[at], ring[1][at])]
        self.assertEqual(len(gains), len(ring[1]))
        self.assertTrue(min(gains) >= 0 and max(gains) > 0)
        climbing = [move for move in moves(game) if move[3] >= 0]
        self.assertEqual(len(ring[1]), ring_size(graph(game, climbing), graph(game, [move for move in climbing if move[3] > 0])))
        for same in same_rings(game, ring):
            self.truth(self.unchanged(is_weak_ring, game, same), True)
        for thing in not_rings(ring) + [turned_about(ring)]:
            self.truth(is_weak_ring(game, thing), False)

    def test_all_shapes(self):
        draw = drawing(301)
        for sizes in SIZES[::6]:
            self.assertTrue(self.check(signed_game(draw, sizes, 9)))

    def test_all_kinds_of_games(self):
        seen = {self.check(game) for game in small_and_great_games(drawing(302))}
        self.assertEqual(seen, {True, False})

    def test_weights_are_signs(self):
        draw = drawing(303)
        for sizes in SOME_SIZES:
            game = weighted_game(draw, sizes)
            self.truth(is_sign_height(game, weighted_height(game)), True)
            self.assertTrue(self.check(game))
            self.check(bent_game(draw, sizes))

    def test_side_by_side(self):
        draw = drawing(304)
        for one, other in ((signed_game(draw, (3, 2)), signed_game(draw, (2, 3))), (signed_game(draw, (3,)), weighted_game(draw, (3, 3))),
                           (flat_game(draw, (2, 2)), steep_game(draw, (3, 3), 1))):
            both = side_by_side(one, other)
            self.assertTrue(self.check(both))
            sums = [mine + yours for mine in sign_height(one).values() for yours in sign_height(other).values()]
            self.exact(list(sign_height(both).values()), sums)
            self.assertFalse(self.check(side_by_side(one, flee())))

    def test_each_number_is_the_least(self):
        draw = drawing(305)
        for sizes in ((3,), (2, 2), (3, 2), (2, 2, 2), (3, 3, 3)):
            for bound in (1, 3):
                game = signed_game(draw, sizes, bound)
                found = sign_height(game)
                for level in levels(game):
                    lower = {**found, **{standing: found[standing] - 1 for standing in level}}
                    self.assertTrue(min(lower.values()) < 0 or not holds(game, lower))

    def test_edges(self):
        for game in (lone(), Game({"a": ["l"]}, {("l",): [7]}), any_game(drawing(306), (4,), GREAT),
                     any_game(drawing(306), (1, 4)), any_game(drawing(306), (1, 1, 1, 1)), any_game(drawing(306), (1, 1, 4))):
            self.exact(weak_ring(game), None)
            self.exact(sign_height(game), wanted_height(game))
            self.exact(levels(game), wanted_levels(game))
        game = Game({"c": ["t", "u", "v", "w"]}, {("t",): [5], ("u",): [-GREAT], ("v",): [5], ("w",): [6]})
        self.exact(levels(game), [[("t",), ("v",)], [("u",)], [("w",)]])
        self.exact(sign_height(game), {("t",): 1, ("u",): 0, ("v",): 1, ("w",): 2})
        zero = flat_game(drawing(307), (3, 3, 3, 3))
        self.exact(levels(zero), [zero.standings()])
        self.exact(set(sign_height(zero).values()), {0})
        self.exact(weak_ring(zero), None)

    def test_a_bettering_within_a_level(self):
        # All standings are joined by changes of own gain 0, but b betters once.
        game = Game(PLAIN, {("l", "l"): (0, 0), ("l", "r"): (0, 1), ("r", "l"): (0, 0), ("r", "r"): (0, 0)})
        self.exact(levels(game), [[("l", "l"), ("l", "r"), ("r", "l"), ("r", "r")]])
        self.exact(sign_height(game), None)
        self.assertEqual(len(weak_ring(game)[1]), 4)
        self.truth(is_weak_ring(game, (("l", "l"), [("b", "r"), ("a", "r"), ("b", "l"), ("a", "l")])), True)
        self.truth(is_weak_ring(game, (("l", "l"), [("a", "r"), ("b", "r"), ("a", "l"), ("b", "l")])), False)
        self.truth(is_weak_ring(game, (("l", "l"), [("a", "r"), ("a", "l")])), False)

    def test_the_document(self):
        self.exact(sign_height(meet()), {("l", "l"): 1, ("l", "r"): 0, ("r", "l"): 0, ("r", "r"): 1})
        self.assertEqual(len(weak_ring(flee())[1]), 4)
        lean = Game(PLAIN, {("l", "l"): (2, 6), ("l", "r"): (0, 0), ("r", "l"): (0, 0), ("r", "r"): (1, 3)})
        self.exact(weak_ring(lean), None)

    def test_what_is_returned_is_new(self):
        for game in (meet(), flee(), flat_game(drawing(308), (3, 2))):
            for call in (levels, sign_height, weak_ring):
                self.new_each_time(call, game)


class IsSignHeight(Checks):
    def test_heights(self):
        draw = drawing(311)
        seen = set()
        for sizes in SOME_SIZES:
            for make in (signed_game, flat_game, steep_game, any_game):
                game = make(draw, sizes, draw.choice((1, GREAT)))
                found = sign_height(game)
                if found is None:
                    self.truth(is_sign_height(game, {standing: 0 for standing in game}), False)
                    continue
                for factor, number in ((1, 0), (3, -7), (GREAT, GREAT)):
                    other = {standing: factor * found[standing] + number for standing in reversed(found)}
                    self.truth(self.unchanged(is_sign_height, game, other), True)
                turned = {standing: -found[standing] for standing in found}
                self.truth(is_sign_height(game, turned), set(found.values()) == {0})
                for standing in draw.sample(game.standings(), min(5, len(game))):
                    for number in (-1, 1, 5):
                        other = {**found, standing: found[standing] + number}
                        wanted = holds(game, other)
                        self.truth(is_sign_height(game, other), wanted)
                        seen.add(wanted)
        self.assertEqual(seen, {True, False})

    def test_what_is_no_height(self):
        zero = meet().times(0)
        nothing = {standing: 0 for standing in zero}
        self.truth(is_sign_height(zero, nothing), True)
        for thing in odd_values() + not_numbers(nothing):
            self.truth(is_sign_height(zero, thing), False)
            self.truth(is_sign_height(meet(), thing), False)
        for thing in not_numbers(sign_height(meet())):
            self.truth(is_sign_height(meet(), thing), False)
        self.truth(is_sign_height(flee(), nothing), False)
        still = Game({"a": ["l"]}, {("l",): [7]})
        self.truth(is_sign_height(still, {("l",): -GREAT}), True)
        self.truth(is_sign_height(still, {("l",): True}), False)


class IsWeakRing(Checks):
    def test_all_kinds_of_rings(self):
        draw = drawing(321)
        seen = set()
        for game in games(draw, ((2, 2), (3, 3), (2, 2, 2), (3, 1, 2)), (1,)):
            for ring in rings(draw, game):
                places = through(ring)
                own = {(standing, change): gain for standing, change, _, gain in moves(game)}
                gains = [own[(places[at], tuple(change))] for at, change in enumerate(ring[1])]
                wanted = min(gains) >= 0 and max(gains) > 0
                self.truth(is_ring(game, ring), True)
                self.truth(is_weak_ring(game, ring), wanted)
                seen.add(wanted)
            ring = weak_ring(game)
            if ring is not None and len(ring[1]) < 60:
                # By way of changes of own gain 0, there and back, a weak ring gets longer.
                for change in game.changes(ring[0]):
                    back = (change[0], ring[0][game.choosers().index(change[0])])
                    longer = (ring[0], [change, back] + ring[1])
                    self.truth(is_weak_ring(game, longer), own[(ring[0], change)] == 0)
                    seen.add((own[(ring[0], change)] == 0,))
        self.assertEqual(seen, {True, False, (True,), (False,)})

    def test_odd_values(self):
        for thing in odd_values() + [(("l", "l"), [])]:
            for game in (flee(), meet(), lone()):
                self.truth(is_weak_ring(game, thing), False)


if __name__ == "__main__":
    unittest.main()
