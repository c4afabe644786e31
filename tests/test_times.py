"""No function takes more than some seconds at 81 standings."""

import time
import unittest

from heightgames import betterings, climbs, signs, told, weights
from heightgames.errors import HeightError
from tests.samples import GREAT, MAKERS, drawing

SECONDS = 5


class Times(unittest.TestCase):
    def timed(self, call, *given, **more):
        """What a call returns, within some seconds."""
        start = time.process_time()
        try:
            found = call(*given, **more)
        except HeightError:
            found = None
        self.assertLess(time.process_time() - start, SECONDS, call.__name__)
        return found

    def games(self):
        draw = drawing(901)
        for sizes in ((3, 3, 3, 3), (4, 4, 4, 1)):
            for make in MAKERS:
                for bound in (1, GREAT):
                    yield make(draw, sizes, bound)

    def test_heights(self):
        for game in self.games():
            for call in (told.as_roads, told.as_ties, weights.links, weights.groups, weights.weights, weights.weighted_height,
                         weights.against_weights, signs.levels, signs.sign_height, signs.weak_ring, betterings.rests):
                self.timed(call, game)
            for best in (True, False):
                for call in (betterings.bettering_ring, climbs.climb, climbs.lost, climbs.lengths):
                    self.timed(call, game, best=best)
                for call in (betterings.betterings, climbs.reached, climbs.ends, climbs.longest):
                    self.timed(call, game, game.standings()[0], best=best)

    def test_what_holds(self):
        for game in self.games():
            numbers = {standing: at for at, standing in enumerate(game)}
            ring = betterings.bettering_ring(game) or (game.standings()[0], [])
            for call in (signs.is_sign_height, climbs.is_climb):
                self.timed(call, game, numbers)
            for call in (signs.is_weak_ring, betterings.is_bettering_ring):
                self.timed(call, game, (ring[0], ring[1] * (200 // max(1, len(ring[1])))))
            self.timed(weights.is_weighted, game, {chooser: 1 for chooser in game.choosers()}, numbers)
            self.timed(weights.is_against_weights, game, [(game.standings()[0], "ann", "bob", "anorth", "bnorth")] * 2000)


if __name__ == "__main__":
    unittest.main()
