"""Points 81 and 10: tolls by way, and promises by line."""

import itertools
import unittest

from heightgames.betterings import is_rest, rests
from heightgames.climbs import climb, ends, lengths, lost
from heightgames.errors import NoStanding
from heightgames.games import Game
from heightgames.heights import height
from heightgames.rows import line_of, lines
from heightgames.squares import squares, sums
from heightgames.tolls import lone_tolls, paid, promised, promises, rest_tolls, tolled
from tests.reference import better_moves
from tests.samples import (
    GREAT, SOME_SIZES, Checks, any_game, bent_game, drawing, flat_game, flee, games, lone, meet, odd_values, steep_game,
)

SMALL = ((1,), (2,), (1, 1), (2, 1), (1, 2), (2, 2), (1, 2, 1), (2, 1, 2), (2, 2, 2), (1, 2, 2, 2), (2, 2, 1, 2))


def is_tolls(game, thing):
    """Whether a value is tolls of a game."""
    if thing.__class__ is not dict:
        return False
    shape = game.shape()
    for chooser, part in thing.items():
        if chooser.__class__ is not str or chooser not in shape or part.__class__ is not dict:
            return False
        for way, toll in part.items():
            if way.__class__ is not str or way not in shape[chooser] or toll.__class__ is not int or toll < 0:
                return False
    return True


def any_tolls(draw, game, most=9, share=2):
    """Tolls of some choosers and ways, their keys in any order."""
    tolls = {}
    for chooser in draw.sample(game.choosers(), draw.randint(0, len(game.choosers()))):
        ways = [way for way in game.ways(chooser) if draw.randrange(3) < share]
        draw.shuffle(ways)
        tolls[chooser] = {way: draw.choice((0, draw.randint(0, most))) for way in ways}
    return tolls


def sum_of(tolls):
    return sum(toll for part in tolls.values() for toll in part.values())


def with_tolls(game, tolls):
    """The gains with tolls, straight from the gains."""
    found = {}
    for standing in game.standings():
        found[standing] = tuple(gain - tolls.get(chooser, {}).get(way, 0)
                                for chooser, way, gain in zip(game.choosers(), standing, game.gains(standing)))
    return found


def all_tolls(game, total):
    """All tolls with a sum."""
    ways = [(chooser, way) for chooser in game.choosers() for way in game.ways(chooser)]
    for bars in itertools.combinations(range(total + len(ways) - 1), len(ways) - 1):
        cuts = (-1,) + bars + (total + len(ways) - 1,)
        tolls = {}
        for (chooser, way), low, high in zip(ways, cuts, cuts[1:]):
            tolls.setdefault(chooser, {})[way] = high - low - 1
        yield tolls


def least_surcharges(game, standing, bound):
    """The least sum of tolls, of choosers of one or two ways, with which a standing is the only rest."""
    tables = []
    for chooser in game.choosers():
        table = {}
        own = standing[game.choosers().index(chooser)]
        others = [way for way in game.ways(chooser) if way != own]
        for surcharge in range(-bound, bound + 1) if others else (0,):
            tolls = {own: max(0, -surcharge)}
            tolls.update({way: max(0, surcharge) for way in others})
            other = tolled(game, {chooser: tolls})
            still = frozenset(place for place in game if not any(move[0] == place and move[1][0] == chooser for move in better_moves(other)))
            table[still] = min(table.get(still, bound), abs(surcharge))
        tables.append(table)
    return min(sum(table[still] for table, still in zip(tables, chosen)) for chosen in itertools.product(*tables)
               if frozenset.intersection(*chosen) == {standing})


class Tolled(Checks):
    def test_gains(self):
        draw = drawing(1101)
        for game in games(draw, SOME_SIZES[::2], (9, GREAT)):
            for most in (1, 9, GREAT):
                tolls = any_tolls(draw, game, most)
                found = self.unchanged(tolled, game, tolls)
                self.assertIs(found.__class__, Game)
                self.exact(found.shape(), game.shape())
                self.exact({standing: found.gains(standing) for standing in found}, with_tolls(game, tolls))
        self.assertEqual(tolled(meet(), {}), meet())
        self.assertEqual(tolled(meet(), {"a": {}}), meet())
        self.assertEqual(tolled(meet(), {"b": {"r": 0}}), meet())
        self.exact(tolled(lone(), {"c": {"v": 3}}).gains(("v",)), (-2,))
        self.exact(tolled(meet(), {"b": {"l": GREAT}, "a": {"r": 1}}).gains(("r", "l")), (-1, -GREAT))

    def test_no_square_changes(self):
        draw = drawing(1102)
        for sizes in ((2, 2), (3, 2), (2, 2, 2), (1, 3, 2), (2, 2, 2, 2)):
            for make in (steep_game, bent_game, any_game):
                game = make(draw, sizes)
                other = tolled(game, any_tolls(draw, game, 99))
                for square in squares(game):
                    self.exact(sums(other, square), sums(game, square))
                self.assertIs(height(other) is None, height(game) is None)

    def test_one_rest_alone(self):
        draw = drawing(1103)
        many = 0
        for sizes in ((2,), (2, 2), (1, 2), (2, 2, 2), (2, 1, 2)):
            for _ in range(8):
                game = steep_game(draw, sizes, 5)
                standing = draw.choice(game.standings())
                other = tolled(game, lone_tolls(game, standing))
                self.exact(rests(other), [standing])
                self.assertIsNot(climb(other), None)
                for place in other:
                    self.exact(ends(other, place), [standing])
                many += 1
        self.assertEqual(many, 40)

    def test_what_is_no_game(self):
        for thing in odd_values():
            if thing.__class__ is not Game:
                for tolls in ({}, None, {"x": {}}):
                    self.wrong_at(0, tolled, thing, tolls)

    def test_what_is_no_tolls(self):
        things = odd_values() + [
            {"a": {"l": 1}, "c": {}}, {"c": {"u": 1}}, {"a": {"l": 1, "x": 0}}, {"a": {"l": -1}}, {"a": {"l": True}}, {"a": {"l": False}},
            {"a": {"l": None}}, {"a": {"l": "1"}}, {"a": {"l": [1]}}, {"a": {"l": (1,)}}, {"a": ["l"]}, {"a": [("l", 1)]}, {"a": (("l", 1),)},
            {"a": {"l"}}, [("a", {"l": 1})], (("a", {"l": 1}),), {("a",): {"l": 1}}, {"a": {("l",): 1}}, {"a": {0: 1}}, {"a": {None: 1}},
            {0: {"l": 1}}, {"a": {"l": {}}}, {"a": {"l": meet()}}, {"a": 1}, {"a": "l"}, {"a": {"l": 1}, "b": {"r": -GREAT}},
            {"A": {"l": 1}}, {"a": {"L": 1}}, {b"a": {"l": 1}}, {"a": {b"l": 1}}, {"l": {"a": 1}}, {"a": {"ll": 0}}, {"ab": {}},
        ]
        seen = set()
        for game in (meet(), lone()):
            for thing in things:
                seen.add(is_tolls(game, thing))
                if is_tolls(game, thing):
                    self.assertEqual(len(tolled(game, thing)), len(game))
                else:
                    self.wrong_at(1, tolled, game, thing)
        self.assertEqual(seen, {True, False})

    def test_what_is_handed_in_may_change(self):
        tolls = {"a": {"l": 1}}
        game = tolled(meet(), tolls)
        tolls["a"]["l"] = 7
        tolls["b"] = {"l": 9}
        self.exact(game.gains(("l", "l")), (1, 2))


class RestTolls(Checks):
    def test_least(self):
        draw = drawing(1111)
        for game in games(draw, SOME_SIZES[::2], (1, GREAT)):
            for standing in draw.sample(game.standings(), min(4, len(game))):
                tolls = self.unchanged(rest_tolls, game, standing)
                self.exact(tolls, {chooser: {way: tolls[chooser][way] for way in game.ways(chooser)} for chooser in game.choosers()})
                self.truth(is_rest(tolled(game, tolls), standing), True)
                for chooser in tolls:
                    for way in tolls[chooser]:
                        self.assertIs(tolls[chooser][way].__class__, int)
                        if tolls[chooser][way] > 0:
                            less = {**tolls, chooser: {**tolls[chooser], way: tolls[chooser][way] - 1}}
                            self.truth(is_rest(tolled(game, less), standing), False)
                self.assertIs(sum_of(tolls) == 0, is_rest(game, standing))

    def test_no_others_of_this_sum(self):
        draw = drawing(1112)
        for sizes in ((1,), (3,), (2, 2), (2, 1), (3, 2)):
            for _ in range(3):
                game = any_game(draw, sizes, 1)
                for standing in game:
                    tolls = rest_tolls(game, standing)
                    total = sum_of(tolls)
                    for lesser in range(total):
                        for other in all_tolls(game, lesser):
                            self.assertNotIn(standing, rests(tolled(game, other)))
                    if total <= 4:
                        equals = [other for other in all_tolls(game, total) if standing in rests(tolled(game, other))]
                        self.assertEqual(equals, [tolls])

    def test_the_document(self):
        self.exact(rest_tolls(flee(), ("l", "l")), {"a": {"l": 0, "r": 0}, "b": {"l": 0, "r": 1}})
        self.exact(rest_tolls(lone(), ("v",)), {"c": {"u": 0, "v": 0}})
        self.exact(rest_tolls(Game({"a": ["l"]}, {("l",): [7]}), ("l",)), {"a": {"l": 0}})


class LoneTolls(Checks):
    def check(self, game, standing):
        tolls = self.unchanged(lone_tolls, game, standing)
        self.exact(tolls, {chooser: {way: tolls[chooser][way] for way in game.ways(chooser)} for chooser in game.choosers()})
        self.assertTrue(all(toll.__class__ is int and toll >= 0 for part in tolls.values() for toll in part.values()))
        self.exact(rests(tolled(game, tolls)), [standing])
        return sum_of(tolls)

    def test_no_lesser_sum(self):
        draw = drawing(1121)
        for sizes in SMALL:
            for _ in range(3):
                game = any_game(draw, sizes, 1)
                for standing in draw.sample(game.standings(), min(2, len(game))):
                    for lesser in range(min(5, self.check(game, standing))):
                        for other in all_tolls(game, lesser):
                            self.assertNotEqual(rests(tolled(game, other)), [standing])

    def test_all_sizes(self):
        draw = drawing(1122)
        own = 0
        for sizes in SMALL:
            for make in (any_game, steep_game, bent_game, flat_game):
                for bound in (2, 9):
                    game = make(draw, sizes, bound)
                    if max((abs(gain) for standing in game for gain in game.gains(standing)), default=0) > 9:
                        game = any_game(draw, sizes, bound)
                    standing = draw.choice(game.standings())
                    self.assertEqual(self.check(game, standing), least_surcharges(game, standing, 19))
                    tolls = lone_tolls(game, standing)
                    own += any(tolls[chooser][way] > 0 for chooser, way in zip(game.choosers(), standing))
        self.assertGreater(own, 0)

    def test_many_small_gains(self):
        draw = drawing(1123)
        for bound in (1, 2, 3):
            for _ in range(30):
                game = any_game(draw, (2, 2, 2), bound)
                standing = draw.choice(game.standings())
                self.assertEqual(self.check(game, standing), least_surcharges(game, standing, 2 * bound + 1))

    def test_a_toll_on_a_way_of_the_standing(self):
        shape = {"a": ["l", "r"], "b": ["l", "r"], "c": ["l", "r"]}
        places = list(itertools.product("lr", repeat=3))
        gains = [(-1, 3, 3), (3, 1, -2), (3, -1, -1), (3, 3, 2), (-3, 3, 1), (-1, 1, -2), (0, -1, 1), (3, 3, -1)]
        game = Game(shape, dict(zip(places, gains)))
        standing = ("l", "l", "l")
        self.exact(rests(game), [standing, ("l", "r", "r")])
        self.exact(self.check(game, standing), 1)
        fit = [tolls for tolls in all_tolls(game, 1) if rests(tolled(game, tolls)) == [standing]]
        self.assertEqual([tolls["a"]["l"] for tolls in fit], [1])
        # One more than what makes two ways equal, less than all own gains there else.
        gains = [(0, 1, -2), (1, -1, 1), (2, -2, 2), (1, -1, 2), (-1, 2, 2), (1, -2, 2), (1, 1, 2), (2, -2, 0)]
        self.exact(self.check(Game(shape, dict(zip(places, gains))), ("l", "l", "r")), 1)

    def test_the_document(self):
        self.exact(lone_tolls(lone(), ("u",)), {"c": {"u": 0, "v": 2}})
        self.exact(lone_tolls(lone(), ("v",)), {"c": {"u": 0, "v": 0}})
        self.exact(lone_tolls(Game({"a": ["l"], "b": ["l"]}, {("l", "l"): (9, -9)}), ("l", "l")), {"a": {"l": 0}, "b": {"l": 0}})


class Promises(Checks):
    def test_least(self):
        draw = drawing(1131)
        for game in games(draw, SOME_SIZES[::2], (1, GREAT)):
            standing = draw.choice(game.standings())
            found = self.unchanged(promises, game, standing)
            self.exact(list(found), lines(game))
            other = self.unchanged(promised, game, standing)
            self.exact(other.shape(), game.shape())
            for (chooser, others), promise in found.items():
                at = game.choosers().index(chooser)
                places = {way: others[:at] + (way,) + others[at:] for way in game.ways(chooser)}
                rivals = [game.gain(chooser, places[way]) for way in places if way != standing[at]]
                mine = game.gain(chooser, places[standing[at]])
                self.assertIs(promise.__class__, int)
                self.assertGreaterEqual(promise, 0)
                self.assertTrue(all(mine + promise > rival for rival in rivals))
                self.assertTrue(promise == 0 or any(mine + promise - 1 <= rival for rival in rivals))
                for way in places:
                    more = promise if way == standing[at] else 0
                    self.exact(other.gain(chooser, places[way]), game.gain(chooser, places[way]) + more)
            self.exact(self.unchanged(paid, game, standing), sum(found[line_of(game, standing, name)] for name in game.choosers()))
            self.check_rows(other, standing)

    def check_rows(self, game, standing):
        """Each row of best betterings ends at the standing, behind at most one change of each chooser."""
        self.exact(rests(game), [standing])
        self.assertEqual(lost(game, best=True), [])
        for place in game.standings()[::5]:
            self.exact(ends(game, place, best=True), [standing])
        apart = {place: sum(way != own for way, own in zip(place, standing)) for place in game}
        self.assertEqual(lengths(game, best=True), apart)
        for place, change, _, _ in better_moves(game, True):
            self.assertEqual(change[1], standing[game.choosers().index(change[0])])

    def test_the_document(self):
        self.exact(paid(flee(), ("l", "l")), 2)
        self.exact(promises(flee(), ("l", "l")), {("a", ("l",)): 0, ("a", ("r",)): 2, ("b", ("l",)): 2, ("b", ("r",)): 0})
        self.exact(promises(lone(), ("u",)), {("c", ()): 2})
        self.exact(promises(Game({"a": ["l"]}, {("l",): [7]}), ("l",)), {("a", ()): 0})
        self.exact([paid(meet(), standing) for standing in meet()], [0, 5, 5, 0])


class Errors(Checks):
    def test_what_is_no_standing(self):
        for game in (meet(), lone(), any_game(drawing(1141), (2, 2, 2))):
            for thing in odd_values():
                if thing not in game:
                    for call in (rest_tolls, lone_tolls, promises, promised, paid):
                        self.assertIs(self.raised(NoStanding, call, game, thing).standing, thing)

    def test_what_is_returned_is_new(self):
        for game in (meet(), flee(), lone()):
            standing = game.standings()[0]
            for call in (rest_tolls, lone_tolls, promises):
                self.new_each_time(call, game, standing)


if __name__ == "__main__":
    unittest.main()
