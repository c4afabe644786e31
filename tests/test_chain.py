"""Points 5 to 8 over the whole program: the chain of heights, and the papers against them."""

import unittest

from heightgames.betterings import bettering_ring, is_bettering_ring, rests
from heightgames.climbs import climb, ends, is_climb, lengths, longest, lost
from heightgames.errors import NoHeight
from heightgames.far import calm, far, is_far, is_near, over_ranks
from heightgames.firsts import is_lead, is_stray, lead_ranks, leads, stray
from heightgames.fillings import filled, is_filling
from heightgames.heights import height, is_height, tops
from heightgames.rows import row_sum
from heightgames.rounds import turning
from heightgames.signs import is_sign_height, is_weak_ring, sign_height, weak_ring
from heightgames.squares import bad_square, ring_of, squares, sums
from heightgames.teams import is_team_height, strong_rests, team_ranks
from heightgames.told import as_roads
from heightgames.weights import against_weights, is_against_weights, is_weighted, weighted_height, weights
from tests.samples import (
    Checks, any_game, best_game, climbing_game, drawing, flat_game, flee, games, lone, meet, signed_game, small_and_great_games,
    steep_game, weighted_game,
)


def heights_of(game):
    """The heights of the kinds steps, weights, signs, betterings, best betterings, or None."""
    return [height(game), weighted_height(game), sign_height(game), climb(game), climb(game, best=True)]


def are_heights(game, thing):
    """Whether a value is a height of each kind, with the weights of the game."""
    numbers = weights(game) or {chooser: 1 for chooser in game.choosers()}
    return [is_height(game, thing), is_weighted(game, numbers, thing), is_sign_height(game, thing), is_climb(game, thing),
            is_climb(game, thing, best=True)]


class Chain(Checks):
    def check(self, game):
        """Check the chain; return how many kinds of height are missing."""
        found = heights_of(game)
        missing = [one is None for one in found]
        # Where one kind has none, none ahead of it has one.
        self.assertEqual(missing, sorted(missing, reverse=True))
        for at, one in enumerate(found):
            if one is not None:
                self.assertEqual(are_heights(game, one)[at:], [True] * (5 - at))
                greatest = max(one.values())
                self.assertLessEqual({place for place in one if one[place] == greatest}, set(rests(game)))
        if found[0] is not None:
            self.truth(is_weighted(game, {chooser: 1 for chooser in game.choosers()}, found[0]), True)
            self.exact(weights(game) is None, False)
        self.check_papers(game, missing)
        return sum(missing)

    def check_papers(self, game, missing):
        """The papers against heights go the same way: what is against one kind leads to what is against each ahead of it."""
        against = [bad_square(game), against_weights(game), weak_ring(game), bettering_ring(game), bettering_ring(game, best=True)]
        self.assertEqual([paper is not None for paper in against], missing)
        square, some, weak, ring, best = against
        if square is not None:
            self.assertNotEqual(sum(sums(game, square)), 0)
            self.assertNotEqual(row_sum(game, ring_of(game, square)), 0)
        if some is not None:
            self.truth(is_against_weights(game, some), True)
        if weak is not None:
            self.truth(is_weak_ring(game, weak), True)
            self.truth(is_far(game, (1, len(weak[1])), weak), True)
        for paper in (ring, best):
            if paper is not None:
                self.truth(is_bettering_ring(game, paper), True)
                self.truth(is_weak_ring(game, paper), True)
        if best is not None:
            self.truth(is_bettering_ring(game, best, best=True), True)
        self.check_far(game, missing)

    def check_far(self, game, missing):
        self.assertIs(far(game) == (0, 1), not missing[0])
        self.assertIs(calm(game) == 0, not missing[3])
        self.exact(over_ranks(game, 0), climb(game))
        if missing[0]:
            self.raised(NoHeight, as_roads, game)
            self.raised(NoHeight, tops, game)
        else:
            self.truth(is_near(game, (0, 1), height(game)), True)

    def test_all_kinds_of_games(self):
        seen = {self.check(game) for game in small_and_great_games(drawing(2001))}
        self.assertEqual(seen, {0, 1, 2, 3, 4, 5})

    def test_small_games(self):
        draw = drawing(2002)
        seen = set()
        for make in (steep_game, weighted_game, signed_game, climbing_game, best_game, any_game, flat_game):
            for sizes in ((2, 2), (3, 2), (2, 2, 2), (3, 3)):
                for _ in range(6):
                    seen.add(self.check(make(draw, sizes, 3)))
        self.assertEqual(seen, {0, 1, 2, 3, 4, 5})

    def test_the_document(self):
        self.assertEqual([self.check(game) for game in (meet(), flee(), lone())], [0, 5, 0])

    def test_rows_of_betterings(self):
        for game in games(drawing(2003), ((1,), (2, 2), (3, 2), (2, 2, 2), (3, 3)), (1, 9)):
            for best in (False, True):
                if climb(game, best=best) is not None:
                    self.assertEqual(lost(game, best=best), [])
                    self.assertNotIn(None, lengths(game, best=best).values())
                    for standing in game.standings()[::3]:
                        self.assertLessEqual(set(ends(game, standing, best=best)), set(rests(game)))
                        self.assertIsNot(longest(game, standing, best=best), None)
            if climb(game, best=True) is not None:
                self.assertEqual(turning(game, game.choosers()[::-1]), [])
            self.truth(leads(game, {}, rests(game)), climb(game) is not None)
            away = stray(game, {}, rests(game))
            self.assertIs(away is None, climb(game) is not None)
            if away is None:
                self.exact(lead_ranks(game, {}, rests(game)), lengths(game))
                self.truth(is_lead(game, {}, rests(game), lengths(game)), True)
            else:
                self.truth(is_stray(game, {}, rests(game), away), True)
                self.truth(is_bettering_ring(game, away[1]), True)

    def test_teams_go_further_than_betterings(self):
        for game in games(drawing(2004), ((1,), (2, 2), (3, 2), (2, 2, 2)), (1, 9)):
            self.assertLessEqual(set(strong_rests(game)), set(rests(game)))
            if team_ranks(game) is not None:
                self.truth(is_climb(game, team_ranks(game)), True)
                self.truth(is_team_height(game, team_ranks(game)), True)

    def test_squares_and_fillings(self):
        for game in games(drawing(2005), ((2, 2), (3, 2), (2, 2, 2)), (9,)):
            for ring in (bettering_ring(game), weak_ring(game)):
                if ring is not None:
                    filling = filled(game, ring)
                    self.truth(is_filling(game, ring, filling), True)
                    self.assertEqual(sum(sign * sum(sums(game, square)) for square, sign in filling), row_sum(game, ring))
                    self.assertIsNot(bad_square(game), None)
            self.assertIs(all(sum(sums(game, square)) == 0 for square in squares(game)), height(game) is not None)


if __name__ == "__main__":
    unittest.main()
