"""Points 90 and 7: which choosers hang on which, and ways that are always worse than others."""

import itertools
import unittest

from heightgames.betterings import rests
from heightgames.errors import Wrong
from heightgames.games import Game
from heightgames.heights import height
from heightgames.parts import fixed, hangs, is_struck, lots, struck, worse
from heightgames.weights import groups
from tests.reference import moves
from tests.samples import (
    CHOOSERS, GREAT, MAKERS, SIZES, SOME_SIZES, Checks, any_game, drawing, flat_game, flee, games, lone, meet, odd_values, shape_of,
    side_by_side, small_and_great_games, steep_game, tied_game,
)


def hanging(game):
    """The pairs (one, other), straight from the own gains."""
    own = {(standing, change): gain for standing, change, _, gain in moves(game)}
    found = set()
    names = game.choosers()
    for (standing, change), gain in own.items():
        for at, other in enumerate(names):
            if other != change[0]:
                for way in game.ways(other):
                    if own[(standing[:at] + (way,) + standing[at + 1:], change)] != gain:
                        found.add((change[0], other))
    return sorted(found)


def lots_of(game, pairs):
    lots_now = [[name] for name in game.choosers()]
    for one, other in pairs:
        mine = next(lot for lot in lots_now if one in lot)
        yours = next(lot for lot in lots_now if other in lot)
        if mine is not yours:
            lots_now.remove(yours)
            mine.extend(yours)
    return sorted(sorted(lot) for lot in lots_now)


def always_worse(game):
    """All tuples (chooser, way, by), not the least ones alone."""
    found = []
    for at, chooser in enumerate(game.choosers()):
        for way, by in itertools.permutations(game.ways(chooser), 2):
            places = [standing for standing in game.standings() if standing[at] == way]
            if all(game.gain(chooser, place) < game.gain(chooser, place[:at] + (by,) + place[at + 1:]) for place in places):
                found.append((chooser, way, by))
    return found


def dominated_game(draw, sizes, bound=9):
    """A game in which some ways are worse than others, or get so when others are taken out."""
    game = any_game(draw, sizes, bound)
    gains = {standing: list(game.gains(standing)) for standing in game}
    for _ in range(draw.randint(1, 6)):
        at = draw.randrange(len(sizes))
        way = draw.choice(game.ways(CHOOSERS[at]))
        for standing in gains:
            if standing[at] == way and draw.randrange(12):
                gains[standing][at] -= draw.randint(1, 2 * bound)
    return Game(shape_of(sizes), gains)


def without(game, step):
    return game.kept({step[0]: [way for way in game.ways(step[0]) if way != step[1]]})


class Hangs(Checks):
    def check(self, game):
        pairs = self.unchanged(hangs, game)
        self.exact(pairs, hanging(game))
        self.exact(self.unchanged(lots, game), lots_of(game, pairs))
        self.assertIs(pairs == [], all(len(lot) == 1 for lot in lots(game)))
        return len(lots(game))

    def test_all_shapes(self):
        draw = drawing(1301)
        for sizes in SIZES[::5]:
            self.check(any_game(draw, sizes, 3))

    def test_all_kinds_of_games(self):
        draw = drawing(1302)
        seen = {self.check(game) for game in small_and_great_games(draw)}
        seen.update(self.check(tied_game(draw, sizes, 9, pairs)) for sizes in SOME_SIZES if len(sizes) > 1 for pairs in (1, 2))
        self.assertEqual(seen, {1, 2, 3, 4})

    def test_one_hangs_on_other_but_not_back(self):
        game = Game(meet().shape(), {("l", "l"): (1, 0), ("l", "r"): (0, 7), ("r", "l"): (0, 0), ("r", "r"): (1, 7)})
        self.exact(hangs(game), [("a", "b")])
        self.exact(lots(game), [["a", "b"]])
        self.exact(hangs(flee()), [("a", "b"), ("b", "a")])
        # What one gains hangs on other, but no own gain of it does.
        self.exact(hangs(meet().times(0).with_extra("a", ("r",), 9)), [])

    def test_side_by_side(self):
        draw = drawing(1303)
        for one, other in ((any_game(draw, (3, 2)), any_game(draw, (2, 3))), (meet(), lone()), (flat_game(draw, (2, 2)), flee())):
            both = side_by_side(one, other)
            self.check(both)
            names = dict(zip(one.choosers() + [name + "z" for name in other.choosers()], both.choosers()))
            wanted = [[names[name] for name in lot] for lot in lots(one)] + [[names[name + "z"] for name in lot] for lot in lots(other)]
            self.exact(lots(both), sorted(wanted))

    def test_lots_are_groups_where_there_is_a_height(self):
        draw = drawing(1304)
        for sizes in SOME_SIZES:
            game = steep_game(draw, sizes)
            self.exact(lots(game), groups(game))

    def test_edges(self):
        still = Game({"a": ["l"]}, {("l",): [7]})
        for game, wanted in ((still, [["a"]]), (lone(), [["c"]]), (any_game(drawing(1305), (1, 1, 1, 1)), [[name] for name in CHOOSERS])):
            self.exact(hangs(game), [])
            self.exact(lots(game), wanted)

    def test_what_is_returned_is_new(self):
        for game in (meet(), lone(), flee()):
            for call in (hangs, lots, worse):
                self.new_each_time(call, game)


class Fixed(Checks):
    def test_gains(self):
        draw = drawing(1311)
        for game in games(draw, SOME_SIZES[::2], (9, GREAT)):
            names = game.choosers()
            for many in range(len(names)):
                chosen = draw.sample(names, many)
                ways = {chooser: draw.choice(game.ways(chooser)) for chooser in chosen}
                found = self.unchanged(fixed, game, ways)
                left = [name for name in names if name not in ways]
                self.exact(found.shape(), {name: game.ways(name) for name in left})
                for standing in game:
                    if all(way == ways.get(name, way) for name, way in zip(names, standing)):
                        short = tuple(way for name, way in zip(names, standing) if name not in ways)
                        self.exact(found.gains(short), tuple(game.gain(name, standing) for name in left))
            self.assertEqual(fixed(game, {}), game)

    def test_what_is_no_dict_of_ways(self):
        ways = odd_values() + [{"a": "l", "b": "l"}, {"a": "x"}, {"c": "l"}, {"a": ["l"]}, {"a": ("l",)}, {"a": None}, {"a": 0}, {"a": "a"},
                               {"l": "a"}, {("a",): "l"}, [("a", "l")], (("a", "l"),), ("a", "l"), {"a": "L"}, {"a": meet()}, {b"a": "l"},
                               {"b": b"r"}, {"a": "l", "c": "l"}, {"a": "lr"}, {"ab": "l"}]
        for game in (meet(), Game({"a": ["l"]}, {("l",): [7]})):
            for thing in ways:
                if thing.__class__ is dict and thing == {}:
                    self.assertEqual(fixed(game, thing), game)
                else:
                    self.wrong_at(1, fixed, game, thing)
        for thing in ({"a": "l"}, {"b": "r"}):
            self.assertEqual(len(fixed(meet(), thing)), 2)
        self.wrong_at(1, fixed, lone(), {"c": "u"})
        self.exact(fixed(meet(), {"b": "r"}).gains(("r",)), (1,))
        self.assertIs(self.raised(Wrong, fixed, meet(), None).__class__, Wrong)


class Struck(Checks):
    def check(self, game):
        every = always_worse(game)
        wanted = [step for at, step in enumerate(every) if step[:2] not in [other[:2] for other in every[:at]]]
        self.exact(self.unchanged(worse, game), wanted)
        left, steps = self.unchanged(struck, game)
        self.assertIs(steps.__class__, list)
        here = game
        for step in steps:
            self.assertIn(step, worse(here))
            here = without(here, step)
        self.assertEqual(here, left)
        self.assertEqual(worse(left), [])
        self.exact(rests(left), rests(game))
        self.truth(is_struck(game, steps), True)
        self.truth(self.unchanged(is_struck, left, []), True)
        self.truth(is_struck(game, []), steps == [])
        return len(steps)

    def orders(self, draw, game, times):
        """In every order the same is left."""
        left, steps = struck(game)
        for _ in range(times):
            here, found = game, []
            while always_worse(here):
                found.append(draw.choice(always_worse(here)))
                here = without(here, found[-1])
            self.assertEqual(here, left)
            self.truth(is_struck(game, found), True)
            for at in range(len(found)):
                self.truth(is_struck(game, found[:at]), False)
                self.truth(is_struck(game, found + [found[at]]), False)
                self.truth(is_struck(game, found[:at] + [found[at]] * 2 + found[at + 1:]), False)

    def test_all_kinds_of_games(self):
        draw = drawing(1321)
        for game in small_and_great_games(draw):
            self.check(game)

    def test_games_with_ways_that_are_worse(self):
        draw = drawing(1322)
        seen = set()
        for sizes in ((2,), (4,), (2, 2), (4, 3), (2, 1, 3), (3, 3, 3), (2, 2, 2, 2), (3, 3, 3, 3)):
            for bound in (1, 9, GREAT):
                for _ in range(4):
                    game = dominated_game(draw, sizes, bound)
                    seen.add(self.check(game))
                    self.orders(draw, game, 3)
        self.assertLessEqual({0, 1, 2, 3, 4}, seen)

    def test_steps_otherwise(self):
        draw = drawing(1323)
        seen = set()
        for sizes in ((3,), (4,), (3, 2), (3, 3), (2, 3, 2)):
            for _ in range(6):
                game = dominated_game(draw, sizes, 9)
                steps = struck(game)[1]
                for at, (chooser, way, by) in enumerate(steps):
                    here = game
                    for step in steps[:at]:
                        here = without(here, step)
                    for name in game.choosers():
                        for one, other in itertools.product(game.ways(chooser), repeat=2):
                            rest = steps[at + 1:]
                            changed = steps[:at] + [(name, one, other)] + rest
                            wanted = (name, one, other) in always_worse(here)
                            behind = without(here, (name, one, other)) if wanted else here
                            for step in rest:
                                wanted = wanted and step in always_worse(behind)
                                behind = without(behind, step) if wanted else behind
                            wanted = wanted and not always_worse(behind)
                            self.truth(is_struck(game, changed), wanted)
                            seen.add((wanted, other == by))
        self.assertEqual(seen, {(True, True), (True, False), (False, True), (False, False)})

    def test_what_is_no_list_of_steps(self):
        game = Game({"c": ["t", "u", "v"]}, {("t",): (0,), ("u",): (1,), ("v",): (2,)})
        steps = [("c", "t", "u"), ("c", "u", "v")]
        self.exact(struck(game)[1], steps)
        for good in (steps, [("c", "t", "v"), ("c", "u", "v")], [("c", "u", "v"), ("c", "t", "v")]):
            self.truth(self.unchanged(is_struck, game, good), True)
        bad = [tuple(steps), [list(step) for step in steps], [steps[0], list(steps[1])], steps[:1], steps[1:], steps[::-1], steps * 2,
               [("c", "t", "t"), steps[1]], [("c", "u", "t"), steps[1]], [("c", "t", "u"), ("c", "u", "t")], [("c", "t"), steps[1]],
               [("c", "t", "u", "v"), steps[1]], [("x", "t", "u"), steps[1]], [("c", "x", "u"), steps[1]], [("c", "t", "x"), steps[1]],
               [("c", "t", None), steps[1]], [("c", ["t"], "u"), steps[1]], [(["c"], "t", "u"), steps[1]], [("c", "t", ["u"]), steps[1]],
               [(None, None, None)], [None] + steps, steps + [None], {0: steps[0], 1: steps[1]}, dict.fromkeys(steps), steps[0], [steps], ([],)]
        for thing in bad + [thing for thing in odd_values() if thing.__class__ is not list or thing != []] + [[thing] for thing in odd_values()]:
            self.truth(is_struck(game, thing), False)
        self.truth(is_struck(meet(), ()), False)
        self.truth(is_struck(meet(), []), True)
        for thing in odd_values():
            self.truth(is_struck(meet(), thing), thing.__class__ is list and thing == [])

    def test_edges(self):
        still = Game({"a": ["l"]}, {("l",): [7]})
        self.exact(worse(still), [])
        self.assertEqual(struck(still), (still, []))
        self.exact(worse(lone()), [("c", "u", "v")])
        self.exact(struck(lone())[1], [("c", "u", "v")])
        self.exact(struck(lone())[0].shape(), {"c": ["v"]})
        self.exact(worse(flee()), [])
        self.exact(worse(meet().times(0)), [])
        # The least by is not the best one.
        line = Game({"c": ["t", "u", "v", "w"]}, {("t",): [1], ("u",): [2], ("v",): [3], ("w",): [0]})
        self.exact(worse(line), [("c", "t", "u"), ("c", "u", "v"), ("c", "w", "t")])
        self.exact(struck(line)[0].gains(("v",)), (3,))
        # b's way is worse only when a's way is out.
        chain = Game({"a": ["l", "r"], "b": ["l", "r"]}, {("l", "l"): (1, 0), ("l", "r"): (1, 1), ("r", "l"): (0, 1), ("r", "r"): (0, 0)})
        self.exact(struck(chain)[1], [("a", "r", "l"), ("b", "l", "r")])

    def test_what_is_returned_is_new(self):
        for game in (lone(), meet()):
            _, steps = struck(game)
            steps.append("spoilt")
            self.assertNotIn("spoilt", struck(game)[1])

    def test_heights_stay(self):
        draw = drawing(1324)
        for make in MAKERS:
            game = make(draw, (3, 3, 2), 9)
            if height(game) is not None:
                self.assertIsNot(height(struck(game)[0]), None)


if __name__ == "__main__":
    unittest.main()
