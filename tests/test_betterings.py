"""Points 60, 2 and 7: betterings, rests, and rings of betterings."""

import unittest

from heightgames.betterings import bettering_ring, betterings, is_bettering_ring, is_rest, rests
from heightgames.climbs import climb
from heightgames.errors import NoStanding
from heightgames.games import Game
from heightgames.heights import height, tops
from heightgames.rows import is_ring
from tests.reference import better_moves, graph, ring_size
from tests.samples import (
    GREAT, PLAIN, SIZES, SOME_SIZES, Checks, any_game, best_game, climbing_game, drawing, flat_game, flee, games,
    lone, meet, not_rings, odd_values, rings, same_rings, side_by_side, small_and_great_games, steep_game, through,
    turned_about,
)

# There is a ring of best betterings, and a longer one of others.
CHASE = Game({"a": ["l", "m", "r"], "b": ["l", "r"]},
             {("l", "l"): (2, 0), ("l", "r"): (0, 1), ("m", "l"): (1, 0), ("m", "r"): (1, 1), ("r", "l"): (0, 1), ("r", "r"): (2, 0)})


class Betterings(Checks):
    def check(self, game):
        """Check the betterings and rings of a game; return whether there are rings, and best ones."""
        seen = []
        for best in (False, True):
            moves = better_moves(game, best)
            for standing in game.standings():
                found = self.exactly(betterings, game, standing, best)
                self.exact(found, sorted(move[1] for move in moves if move[0] == standing))
            ring = self.exactly(bettering_ring, game, None, best)
            wanted = ring_size(graph(game, moves))
            self.assertIs(ring is None, wanted is None)
            self.assertIs(climb(game, best=best) is None, wanted is not None)
            if ring is not None:
                self.assertEqual(len(ring[1]), wanted)
                self.check_ring(game, ring, moves, best)
            seen.append(ring is not None)
        starts = {move[0] for move in better_moves(game)}
        self.exact(self.unchanged(rests, game), [standing for standing in game.standings() if standing not in starts])
        for standing in game.standings():
            self.truth(is_rest(game, standing), standing not in starts)
        self.assertTrue(seen[0] or not seen[1])
        return tuple(seen)

    def exactly(self, call, game, standing, best):
        """What is returned with best, which may be left out."""
        given = (game,) if standing is None else (game, standing)
        found = call(*given, best=best)
        self.exact(call(*given, best=best), found)
        if not best:
            self.exact(call(*given), found)
        return found

    def check_ring(self, game, ring, moves, best):
        places = through(ring) if "ann" in game.choosers() else None
        if places is not None:
            steps = {(move[0], move[1]) for move in moves}
            self.assertEqual(places[0], places[-1])
            self.assertTrue(all((place, change) in steps for place, change in zip(places, ring[1])))
            self.truth(is_bettering_ring(game, turned_about(ring), best=best), False)
        for same in same_rings(game, ring):
            self.truth(self.unchanged(is_bettering_ring, game, same, best=best), True)
            self.truth(self.unchanged(is_bettering_ring, game, same), True)
        for thing in not_rings(ring):
            self.truth(is_bettering_ring(game, thing, best=best), False)

    def test_all_shapes(self):
        draw = drawing(401)
        for sizes in SIZES[::6]:
            self.check(any_game(draw, sizes))

    def test_all_kinds_of_games(self):
        seen = {self.check(game) for game in small_and_great_games(drawing(402))}
        self.assertEqual(seen, {(True, True), (True, False), (False, False)})

    def test_games_with_heights(self):
        draw = drawing(403)
        for sizes in SOME_SIZES:
            self.assertEqual(self.check(climbing_game(draw, sizes)), (False, False))
            self.assertFalse(self.check(best_game(draw, sizes, 3))[1])
            game = steep_game(draw, sizes)
            self.assertLessEqual(set(tops(game)), set(rests(game)))
            self.assertIsNot(height(game), None)
            self.exact(rests(flat_game(draw, sizes)), game.standings())

    def test_side_by_side(self):
        draw = drawing(404)
        for one, other in ((any_game(draw, (3, 2)), any_game(draw, (2, 3))), (climbing_game(draw, (3, 3)), any_game(draw, (4,))),
                           (flee(), flee()), (meet(), meet())):
            both = side_by_side(one, other)
            self.check(both)
            at = [(game.standings().index(standing)) for game in (one, other) for standing in rests(game)]
            first = at[:len(rests(one))]
            wanted = [both.standings()[index * len(other) + by] for index in first for by in at[len(first):]]
            self.exact(rests(both), wanted)

    def test_best_betterings(self):
        self.check(CHASE)
        self.exact(betterings(CHASE, ("m", "l")), [("a", "l"), ("b", "r")])
        self.exact(betterings(CHASE, ("r", "l")), [("a", "l"), ("a", "m")])
        self.exact(betterings(CHASE, ("r", "l"), best=True), [("a", "l")])
        self.assertEqual(len(bettering_ring(CHASE)[1]), 4)
        equal = Game({"c": ["u", "v", "w", "x"]}, {("u",): [0], ("v",): [2], ("w",): [1], ("x",): [2]})
        self.exact(betterings(equal, ("u",)), [("c", "v"), ("c", "w"), ("c", "x")])
        self.exact(betterings(equal, ("u",), best=True), [("c", "v"), ("c", "x")])
        self.exact(betterings(equal, ("v",), best=True), [])
        self.exact(rests(equal), [("v",), ("x",)])

    def test_a_ring_that_is_not_of_best_ones(self):
        ring = (("l", "l"), [("b", "r"), ("a", "m"), ("a", "r"), ("b", "l"), ("a", "l")])
        self.truth(is_ring(CHASE, ring), True)
        self.truth(is_bettering_ring(CHASE, ring), True)
        self.truth(is_bettering_ring(CHASE, ring, best=True), False)
        self.truth(is_bettering_ring(CHASE, bettering_ring(CHASE, best=True), best=True), True)

    def test_edges(self):
        draw = drawing(405)
        for game in (lone(), Game({"a": ["l"]}, {("l",): [7]}), any_game(draw, (4,), GREAT), any_game(draw, (1, 4)),
                     any_game(draw, (1, 1, 1, 1)), any_game(draw, (1, 1, 4), 1)):
            self.assertEqual(self.check(game), (False, False))
        self.exact(rests(Game({"a": ["l"]}, {("l",): [7]})), [("l",)])
        self.exact(rests(lone()), [("v",)])

    def test_the_document(self):
        self.exact(betterings(meet(), ("l", "r")), [("a", "r"), ("b", "l")])
        self.exact(betterings(meet(), ("l", "r"), best=True), [("a", "r"), ("b", "l")])
        self.exact(rests(meet()), [("l", "l"), ("r", "r")])
        self.exact(rests(flee()), [])

    def test_wrong_values(self):
        for make in (meet, flee):
            game = make()
            for thing in odd_values() + [["l", "r"], ("l", "r", "l")]:
                for call in (betterings, is_rest):
                    self.assertIs(self.raised(NoStanding, call, game, thing).standing, thing)
                for best in (True, False):
                    with self.assertRaises(NoStanding) as caught:
                        betterings(game, thing, best=best)
                    self.assertIs(caught.exception.standing, thing)
            self.assertEqual(game, make())
        # Only by keyword.
        for call in (lambda: betterings(meet(), ("l", "l"), True), lambda: bettering_ring(meet(), True),
                     lambda: is_bettering_ring(meet(), [], True)):
            self.assertRaises(TypeError, call)

    def test_what_is_returned_is_new(self):
        for game in (meet(), flee(), CHASE):
            self.new_each_time(rests, game)
            for best in (True, False):
                self.new_each_time(bettering_ring, game, best=best)
                for standing in game:
                    self.new_each_time(betterings, game, standing, best=best)


class IsBetteringRing(Checks):
    def test_all_kinds_of_rings(self):
        draw = drawing(411)
        seen = set()
        for game in games(draw, ((2, 2), (3, 3), (2, 2, 2), (3, 1, 2)), (1, 9)):
            steps = [{(move[0], move[1]) for move in better_moves(game, best)} for best in (False, True)]
            found = [bettering_ring(game), bettering_ring(game, best=True)]
            for ring in rings(draw, game) + [ring for ring in found if ring is not None]:
                done = list(zip(through(ring), [tuple(change) for change in ring[1]]))
                for best in (False, True):
                    wanted = all(step in steps[best] for step in done)
                    self.truth(is_bettering_ring(game, ring, best=best), wanted)
                    seen.add((best, wanted))
        self.assertEqual(seen, {(True, True), (True, False), (False, True), (False, False)})

    def test_changes_of_own_gain_nought(self):
        ring = (("l", "l"), [("b", "r"), ("a", "r"), ("b", "l"), ("a", "l")])
        self.truth(is_bettering_ring(flee(), ring), True)
        self.truth(is_bettering_ring(flee().times(GREAT), ring, best=True), True)
        self.truth(is_bettering_ring(flee().with_gains(("r", "l"), (1, 1)), ring), False)
        self.truth(is_bettering_ring(flee().times(0), ring), False)
        self.truth(is_bettering_ring(meet(), ring), False)
        self.truth(is_bettering_ring(Game(PLAIN, {standing: (0, 0) for standing in meet()}), ring, best=True), False)

    def test_odd_values(self):
        for thing in odd_values() + [(("l", "l"), [])]:
            for game in (flee(), meet(), lone()):
                for best in (True, False):
                    self.truth(is_bettering_ring(game, thing, best=best), False)


if __name__ == "__main__":
    unittest.main()
