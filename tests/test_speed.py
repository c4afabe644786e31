"""Questions over all changes of a game take at most so many times the time of making the game, three games of 81 standings."""

import itertools
import time
import unittest

from heightgames import betterings, climbs, far, rounds, signs, weights
from heightgames.games import Game

SHAPE = {chooser: ["l", "m", "r"] for chooser in "abcd"}
STANDINGS = list(itertools.product("lmr", repeat=4))
NUMBERS = {standing: at for at, standing in enumerate(STANDINGS)}
# Where the machine is noisy twice the number asked is still right.
NOISE = 2
TRIES = 20
RUNS = 5


def ringed_gains():
    """Gains that have many betterings and rings."""
    return {standing: tuple(((7 * at + 3 * seat) * (seat + 2)) % 11 for seat in range(4)) for at, standing in enumerate(STANDINGS)}


def stepped_gains():
    return {standing: (standing.count("m"),) * 4 for standing in STANDINGS}


def flat_gains():
    return {standing: (0, 0, 0, 0) for standing in STANDINGS}


def questions(game):
    """The tuples (name, most times the making, call) of all questions of a game."""
    start, climb = STANDINGS[0], climbs.climb(game) or NUMBERS
    found = [
        ("rests", 3, lambda: betterings.rests(game)),
        ("turning", 12, lambda: rounds.turning(game, ["c", "a", "d", "b"])),
        ("levels", 6, lambda: signs.levels(game)),
        ("sign_height", 6, lambda: signs.sign_height(game)),
        ("is_sign_height", 6, lambda: signs.is_sign_height(game, signs_of_game)),
        ("weak_ring", 12, lambda: signs.weak_ring(game)),
        ("links", 12, lambda: weights.links(game)),
        ("groups", 12, lambda: weights.groups(game)),
        ("against_weights", 12, lambda: weights.against_weights(game)),
        ("weights", 16, lambda: weights.weights(game)),
        ("weighted_height", 16, lambda: weights.weighted_height(game)),
        ("over_ranks", 5, lambda: far.over_ranks(game, 0)),
        ("is_near", 5, lambda: far.is_near(game, amount, near)),
        ("calm", 15, lambda: far.calm(game)),
        ("calm_ring", 15, lambda: far.calm_ring(game)),
        ("far", 45, lambda: far.far(game)),
        ("near_height", 90, lambda: far.near_height(game)),
        ("far_ring", 90, lambda: far.far_ring(game)),
    ]
    signs_of_game = signs.sign_height(game) or NUMBERS
    amount, near = far.far(game), far.near_height(game)
    for best in (False, True):
        found.extend([
            ("climb", 4, lambda best=best: climbs.climb(game, best=best)),
            ("is_climb", 4, lambda best=best: climbs.is_climb(game, climb, best=best)),
            ("reached", 4, lambda best=best: climbs.reached(game, start, best=best)),
            ("ends", 4, lambda best=best: climbs.ends(game, start, best=best)),
            ("longest", 4, lambda best=best: climbs.longest(game, start, best=best)),
            ("lengths", 4, lambda best=best: climbs.lengths(game, best=best)),
            ("lost", 8, lambda best=best: climbs.lost(game, best=best)),
            ("bettering_ring", 8, lambda best=best: betterings.bettering_ring(game, best=best)),
        ])
    return found


def least_time(call, runs):
    """The least time of several runs."""
    times = []
    for _ in range(runs):
        start = time.perf_counter()
        call()
        times.append(time.perf_counter() - start)
    return min(times)


class Speed(unittest.TestCase):
    def check(self, gains):
        """Ask each question till it was quick enough once, but for some tries at most."""
        game = Game(SHAPE, gains)
        making = least_time(lambda: Game(SHAPE, gains), 10 * RUNS)
        for name, most, call in questions(game):
            least = least_time(call, RUNS)
            for _ in range(TRIES):
                if least > NOISE * most * making:
                    least = min(least, least_time(call, RUNS))
            self.assertLessEqual(least / making, NOISE * most, name)

    def test_rings(self):
        self.assertIsNot(betterings.bettering_ring(Game(SHAPE, ringed_gains())), None)
        self.check(ringed_gains())

    def test_steps(self):
        self.check(stepped_gains())

    def test_flat(self):
        self.check(flat_gains())


if __name__ == "__main__":
    unittest.main()
