"""No function takes more than a second or so at 81 standings."""

import time
import unittest

from heightgames import (
    betterings, climbs, ends, facts, far, firsts, joined, notation, parts, readers, rounds, signs, teams, told, tolls, weights, worth,
)
from heightgames.back import Seen
from heightgames.desk import Desk, Walk
from heightgames.errors import HeightError
from heightgames.games import Game
from heightgames.rows import lines
from tests.samples import GREAT, MAKERS, any_game, climbing_game, drawing, flat_game, signed_game, steep_game

# A second or so, and as much again for a busy machine.
SECONDS = 2


class Times(unittest.TestCase):
    def timed(self, call, *given, **more):
        """What a call returns, within some seconds."""
        start = time.process_time()
        try:
            found = call(*given, **more)
        except HeightError:
            found = None
        self.assertLess(time.process_time() - start, SECONDS, call.__name__)
        return found

    def games(self):
        draw = drawing(901)
        for make in MAKERS:
            for sizes, bound in (((3, 3, 3, 3), 1), ((3, 3, 3, 3), GREAT), ((4, 4, 4, 1), GREAT)):
                yield make(draw, sizes, bound)

    def test_heights(self):
        for game in self.games():
            for call in (told.as_roads, told.as_ties, weights.links, weights.groups, weights.weights, weights.weighted_height,
                         weights.against_weights, signs.levels, signs.sign_height, signs.weak_ring, betterings.rests):
                self.timed(call, game)
            for best in (True, False):
                for call in (betterings.bettering_ring, climbs.climb, climbs.lost, climbs.lengths):
                    self.timed(call, game, best=best)
                for call in (betterings.betterings, climbs.reached, climbs.ends, climbs.longest):
                    self.timed(call, game, game.standings()[0], best=best)

    def test_what_holds(self):
        for game in self.games():
            numbers = {standing: at for at, standing in enumerate(game)}
            ring = betterings.bettering_ring(game) or (game.standings()[0], [])
            for call in (signs.is_sign_height, climbs.is_climb):
                self.timed(call, game, numbers)
            for call in (signs.is_weak_ring, betterings.is_bettering_ring):
                self.timed(call, game, (ring[0], ring[1] * (200 // max(1, len(ring[1])))))
            self.timed(weights.is_weighted, game, {chooser: 1 for chooser in game.choosers()}, numbers)
            self.timed(weights.is_against_weights, game, [(game.standings()[0], "ann", "bob", "anorth", "bnorth")] * 2000)

    def test_rounds(self):
        for game in self.games():
            order = game.choosers()[::-1]
            self.timed(rounds.resting_order, game)
            self.timed(rounds.turning, game, order)
            for call in (rounds.round_from, rounds.rounds):
                self.timed(call, game, game.standings()[0], order)

    def test_far(self):
        for game in self.games():
            numbers = {standing: at for at, standing in enumerate(game)}
            ring = self.timed(far.far_ring, game) or (game.standings()[0], [])
            for call in (far.far, far.near_height, far.calm, far.calm_ring):
                self.timed(call, game)
            for number in (0, 1, GREAT // 2):
                self.timed(far.over_ranks, game, number)
            self.timed(far.is_near, game, (GREAT, 7), numbers)
            self.timed(far.is_far, game, (1, GREAT), (ring[0], ring[1] * (200 // max(1, len(ring[1])))))

    def test_facts(self):
        draw = drawing(902)
        for game in self.games():
            every = lines(game)
            for many in (0, 3, len(every) // 2, len(every)):
                some = self.timed(facts.facts_of, game, draw.sample(every, many))
                for call in (facts.sure_rests, facts.possible_rests, ends.fate, ends.sure_climb, ends.possible_ring,
                             ends.ending_game, facts.Facts.copied, facts.Facts.told, facts.Facts.untold):
                    self.timed(call, some)
                self.timed(some.fits, game)
                self.timed(ends.is_sure_climb, some, {standing: at for at, standing in enumerate(game)})
                for call in (facts.is_sure, facts.is_possible):
                    self.timed(call, some, game.standings()[0], game.changes(game.standings()[0])[0])

    def test_settling(self):
        draw = drawing(903)
        for sizes in ((3, 3, 3), (4, 3, 2), (4, 4, 1), (2, 2, 2, 3), (3, 3, 3, 1)):
            for make in (any_game, climbing_game, signed_game, flat_game):
                for left in (0, 1, 2, 4, 12, 27):
                    game = make(draw, sizes, 9)
                    every = lines(game)
                    self.timed(ends.settling, facts.facts_of(game, draw.sample(every, max(0, len(every) - left))))

    def test_tolls_and_worth(self):
        for game in self.games():
            standing = game.standings()[-1]
            due = self.timed(tolls.rest_tolls, game, standing)
            self.timed(tolls.tolled, game, due)
            for call in (tolls.promises, tolls.promised, tolls.paid):
                self.timed(call, game, standing)
            for call in (worth.best_sum, worth.rest_sums):
                self.timed(call, game)
        draw = drawing(904)
        for _ in range(5):
            self.timed(tolls.lone_tolls, any_game(draw, (2, 2, 2)), ("aeast", "beast", "ceast"))
        self.timed(worth.dearness, told.as_roads(steep_game(draw, (3, 3, 3, 3))))

    def test_parts_and_joined(self):
        for game in self.games():
            for call in (parts.hangs, parts.lots, parts.worse, parts.struck):
                self.timed(call, game)
            self.timed(parts.is_struck, game, parts.struck(game)[1])
            self.timed(parts.fixed, game, {"dora": game.ways("dora")[0]} if len(game.choosers()) > 3 else {})
        draw = drawing(905)
        one, other = any_game(draw, (3, 3)), any_game(draw, (3, 3))
        other = Game({"x": other.ways("ann"), "y": other.ways("bob")}, {place: other.gains(place) for place in other})
        both = self.timed(joined.beside, one, other)
        self.timed(joined.sides, one, other, both.standings()[-1])

    def test_firsts(self):
        for game in self.games():
            still = betterings.rests(game)
            for wished in (still, still[:1], [], game.standings() * 20):
                found = self.timed(firsts.firsts, game, wished)
                for first in ({}, dict(found or ())):
                    ranks = self.timed(firsts.lead_ranks, game, first, wished)
                    away = self.timed(firsts.stray, game, first, wished)
                    self.timed(firsts.leads, game, first, wished)
                    self.timed(firsts.is_lead, game, first, wished, ranks or {place: 1 for place in game})
                    self.timed(firsts.is_stray, game, first, wished, away)

    def test_teams(self):
        for game in self.games():
            for call in (teams.strong_rests, teams.team_ranks):
                self.timed(call, game)
            self.timed(teams.team_betterings, game, game.standings()[0])
            self.timed(teams.is_team_height, game, {place: at for at, place in enumerate(game)})
            ring = self.timed(teams.team_ring, game) or game.standings()[:1]
            self.timed(teams.is_team_ring, game, ring[:-1] * (1500 // len(ring)) + ring[:1])

    def test_what_was_seen(self):
        draw = drawing(906)
        for game in self.games():
            seen = Seen(game.shape())
            for _ in range(500):
                standing = draw.choice(game.standings())
                found = betterings.betterings(game, standing)
                if found:
                    seen.saw(standing, draw.choice(found))
                else:
                    seen.rested(standing)
            for call in (seen.height, seen.game, seen.against):
                self.timed(call)
            self.timed(seen.fits, {place: at for at, place in enumerate(game)})
            self.timed(seen.is_against, (seen.against() or []) * 200)

    def test_texts_and_desks(self):
        for game in self.games():
            game = game.times(1).kept({}) if max(max(game.gains(place)) for place in game) < GREAT // 10 else game.times(0)
            text = self.timed(notation.show_game, game)
            self.timed(readers.read_game, text)
            self.timed(readers.read_row, "l" + " a.l" * 2000)
            desk = Desk()
            self.timed(desk.execute, text[:-1])
            for line in ("where", "row", "gains", "better", "best", "rests", "kind", "far"):
                self.timed(desk.execute, line)
            walk = Walk(game, game.standings()[0])
            for _ in range(200):
                walk.go(game.changes(walk.here)[0])
            self.timed(walk.gained)
            self.timed(walk.row)


if __name__ == "__main__":
    unittest.main()
