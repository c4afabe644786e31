"""Point 100: team betterings, of several choosers at once."""

import unittest

from heightgames.betterings import betterings, rests
from heightgames.climbs import climb
from heightgames.errors import NoStanding
from heightgames.games import Game
from heightgames.heights import height, tops
from heightgames.teams import is_team_height, is_team_ring, strong_rests, team_betterings, team_ranks, team_ring
from tests.reference import most_to, ring_size
from tests.samples import (
    GREAT, MAKERS, SIZES, Checks, any_game, climbing_game, drawing, flat_game, flee, lone, meet, not_numbers, odd_values,
    shape_of, steep_game,
)

# All gain less where more of them flee, and yet each gains by fleeing.
PLAIN = {"a": ["l", "r"], "b": ["l", "r"]}
ALL_FLEE = {("l", "l"): (3, 3), ("l", "r"): (0, 5), ("r", "l"): (5, 0), ("r", "r"): (1, 1)}


def team_graph(game):
    """The dict from all standings to the sets of those to which a team bettering leads."""
    found = {}
    for standing in game.standings():
        found[standing] = set()
        for goal in game.standings():
            who = [at for at, way in enumerate(goal) if way != standing[at]]
            if who and all(game.gains(goal)[at] > game.gains(standing)[at] for at in who):
                found[standing].add(goal)
    return found


def shared_game(draw, sizes, bound=9):
    """A game in which all gain the same, so that teams climb."""
    heights = {standing: draw.randint(-bound, bound) for standing in any_game(draw, sizes)}
    return Game(shape_of(sizes), {standing: (heights[standing],) * len(sizes) for standing in heights})


class Teams(Checks):
    def check(self, game):
        """Check all that is told of teams; return whether there are ranks."""
        nexts = team_graph(game)
        for standing in game.standings():
            found = team_betterings(game, standing)
            self.exact(found, sorted(nexts[standing]))
            singles = [game.goal(standing, change) for change in betterings(game, standing)]
            self.assertLessEqual(set(singles), set(found))
        self.exact(self.unchanged(strong_rests, game), [standing for standing in nexts if not nexts[standing]])
        self.assertLessEqual(set(strong_rests(game)), set(rests(game)))
        ranks, ring = self.unchanged(team_ranks, game), self.unchanged(team_ring, game)
        self.exact(ranks, most_to(nexts))
        self.assertIs(ring is None, ranks is not None)
        if ring is None:
            self.truth(is_team_height(game, ranks), True)
            self.assertTrue(strong_rests(game))
            self.assertIsNot(climb(game), None)
            return True
        self.check_ring(game, nexts, ring)
        return False

    def check_ring(self, game, nexts, ring):
        self.assertIs(ring.__class__, list)
        self.exact(ring[0], ring[-1])
        self.assertEqual(len(ring) - 1, ring_size(nexts))
        for ahead, behind in zip(ring, ring[1:]):
            self.assertIn(behind, nexts[ahead])
        self.truth(self.unchanged(is_team_ring, game, ring), True)

    def test_all_shapes(self):
        draw = drawing(1601)
        for sizes in SIZES[::5]:
            self.check(any_game(draw, sizes, 3))
            self.assertIs(self.check(shared_game(draw, sizes, 3)), True)

    def test_all_kinds_of_games(self):
        draw = drawing(1602)
        seen = set()
        for sizes in ((1,), (4,), (1, 3), (2, 2), (4, 3), (2, 2, 2), (3, 4, 3), (2, 2, 2, 2), (3, 3, 2, 2)):
            for make in MAKERS:
                for bound in (1, GREAT):
                    seen.add(self.check(make(draw, sizes, bound)))
        self.assertEqual(seen, {True, False})

    def test_great_games(self):
        draw = drawing(1603)
        for make in (any_game, steep_game, flat_game, shared_game):
            self.check(make(draw, (3, 3, 3, 3), 9))

    def test_all_gain_the_same(self):
        draw = drawing(1604)
        for sizes in ((3,), (2, 2), (3, 2), (2, 2, 2)):
            game = shared_game(draw, sizes)
            self.assertLessEqual(set(tops(game)), set(strong_rests(game)))
            self.assertLessEqual({max(game, key=lambda place: game.gains(place))}, set(strong_rests(game)))
            self.truth(is_team_height(game, height(game)), True)

    def test_who_stays_may_lose(self):
        game = Game(PLAIN, ALL_FLEE)
        self.exact(team_betterings(game, ("l", "l")), [("l", "r"), ("r", "l")])
        self.exact(team_betterings(game, ("r", "r")), [("l", "l")])
        self.exact(team_betterings(game, ("l", "r")), [("r", "r")])
        self.exact(strong_rests(game), [])
        self.exact(team_ranks(game), None)
        self.assertEqual(len(team_ring(game)), 4)
        self.assertIsNot(climb(game), None)

    def test_the_document(self):
        self.exact([team_betterings(meet(), ("r", "r")), strong_rests(meet()), team_ranks(meet())[("l", "l")]], [[("l", "l")], [("l", "l")], 2])
        self.exact(team_ranks(meet()), {("l", "l"): 2, ("l", "r"): 0, ("r", "l"): 0, ("r", "r"): 1})

    def test_edges(self):
        still = Game({"a": ["l"]}, {("l",): [7]})
        self.exact(team_betterings(still, ("l",)), [])
        self.exact(strong_rests(still), [("l",)])
        self.exact(team_ranks(still), {("l",): 0})
        self.exact(team_ring(still), None)
        self.exact(team_ranks(lone()), {("u",): 0, ("v",): 1})
        self.exact(team_ranks(meet().times(0)), {standing: 0 for standing in meet()})
        self.exact(team_ring(flee()), team_ring(flee()))
        self.assertEqual(len(team_ring(flee())), 5)

    def test_what_is_no_standing(self):
        for game in (meet(), lone()):
            for thing in odd_values():
                if thing not in game:
                    self.assertIs(self.raised(NoStanding, team_betterings, game, thing).standing, thing)

    def test_what_is_returned_is_new(self):
        for game in (meet(), lone(), Game(PLAIN, ALL_FLEE)):
            for call in (strong_rests, team_ranks, team_ring):
                self.new_each_time(call, game)
            self.new_each_time(team_betterings, game, game.standings()[0])


class IsTeamHeight(Checks):
    def test_numbers_otherwise(self):
        draw = drawing(1611)
        seen = set()
        for sizes in ((4,), (2, 2), (3, 2), (2, 2, 2)):
            for make in (any_game, shared_game, steep_game):
                game = make(draw, sizes, 4)
                nexts = team_graph(game)
                ranks = team_ranks(game) or {standing: at for at, standing in enumerate(game)}
                for standing in game:
                    for number in (-1, 1, GREAT, -GREAT):
                        other = {**ranks, standing: ranks[standing] + number}
                        wanted = all(other[goal] > other[place] for place in nexts for goal in nexts[place])
                        self.truth(is_team_height(game, other), wanted)
                        seen.add(wanted)
                for more in (1, -GREAT):
                    raised = {standing: ranks[standing] + more for standing in reversed(ranks)}
                    self.truth(self.unchanged(is_team_height, game, raised), team_ranks(game) is not None)
        self.assertEqual(seen, {True, False})

    def test_what_is_no_height(self):
        zero = meet().times(0)
        nothing = {standing: 0 for standing in zero}
        self.truth(is_team_height(zero, nothing), True)
        for thing in odd_values() + not_numbers(nothing):
            self.truth(is_team_height(zero, thing), False)
            self.truth(is_team_height(flee(), thing), False)
        self.truth(is_team_height(meet(), nothing), False)
        self.truth(is_team_height(climbing_game(drawing(1612), (1, 1)), {("aeast", "beast"): -3}), True)


class IsTeamRing(Checks):
    def test_rings_otherwise(self):
        draw = drawing(1621)
        many = 0
        for sizes in ((2, 2), (3, 2), (3, 3), (2, 2, 2), (2, 2, 3)):
            for _ in range(4):
                game = any_game(draw, sizes, 5)
                nexts, ring = team_graph(game), team_ring(game)
                if ring is None:
                    continue
                many += 1
                for same in (ring[1:] + ring[1:2], ring + ring[1:], ring[-2:-1] + ring[:-1]):
                    self.truth(is_team_ring(game, same), True)
                others = [ring[::-1], ring[:-1], ring[1:], ring[:1], ring * 2, ring + ring[:1]]
                for at in range(len(ring)):
                    others.append(ring[:at] + ring[at + 1:])
                    for standing in game:
                        others.append(ring[:at] + [standing] + ring[at:])
                        others.append(ring[:at] + [standing] + ring[at + 1:])
                for other in others:
                    wanted = len(other) > 1 and other[0] == other[-1] and all(behind in nexts[ahead] for ahead, behind in zip(other, other[1:]))
                    self.truth(is_team_ring(game, other), wanted)
        self.assertGreater(many, 5)

    def test_what_is_no_ring(self):
        game = Game(PLAIN, ALL_FLEE)
        ring = team_ring(game)
        self.truth(is_team_ring(game, ring * 1), True)
        self.truth(is_team_ring(game, ring[:-1] * 700 + ring[:1]), True)
        for thing in (tuple(ring), [list(place) for place in ring], ring[:-1] + [list(ring[-1])], [], [ring], dict(enumerate(ring)),
                      dict.fromkeys(ring), ring[:-1] + [None], [None] + ring[1:-1] + [None], [ring[0], ring[0]], [ring[0]], ring[0],
                      [place + ("l",) for place in ring], ["lr", "rr", "ll", "lr"], ring[:1] + [("l",)] + ring[1:]):
            self.truth(is_team_ring(game, thing), False)
        for thing in odd_values():
            for some in (game, meet(), lone()):
                self.truth(is_team_ring(some, thing), False)
                self.truth(is_team_ring(some, [thing, thing]), False)
                self.truth(is_team_ring(some, [thing]), False)


if __name__ == "__main__":
    unittest.main()
