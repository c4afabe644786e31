"""Games, rings and odd values that the tests share."""

import copy
import itertools
import random
import unittest

from heightgames.errors import HeightError, NoStanding, Wrong
from heightgames.games import Game
from heightgames.roads import Roads
from heightgames.ties import Ties

PLAIN = {"a": ["l", "r"], "b": ["l", "r"]}
GREAT = 10 ** 60

# Choosers and ways have names apart, so that one mapping of strings renames both.
CHOOSERS = ("ann", "bob", "cid", "dora")
WAYS = tuple(tuple(first + way for way in ("east", "north", "south", "west")) for first in "abcd")

SIZES = [sizes for many in (1, 2, 3, 4) for sizes in itertools.product((1, 2, 3, 4), repeat=many)
         if len(list(itertools.product(*map(range, sizes)))) <= 81]
SOME_SIZES = [(1,), (2,), (4,), (1, 1), (1, 3), (2, 2), (4, 3), (4, 4), (2, 1, 3), (3, 3, 3), (4, 4, 4),
              (1, 1, 1, 1), (2, 2, 2, 2), (4, 1, 2, 3), (3, 3, 3, 3)]


def meet():
    return Game(PLAIN, {("l", "l"): (2, 2), ("l", "r"): (0, 0), ("r", "l"): (0, 0), ("r", "r"): (1, 1)})


def flee():
    return Game(PLAIN, {("l", "l"): (1, 0), ("l", "r"): (0, 1), ("r", "l"): (0, 1), ("r", "r"): (1, 0)})


def lone():
    return Game({"c": ["u", "v"]}, {("u",): (0,), ("v",): (1,)})


def two_roads():
    return Roads({"a": {"h": ["x"], "l": ["y"]}, "b": {"h": ["x"], "l": ["y"]}}, {"x": [1, 3], "y": [2, 2]})


def one_tie():
    return Ties(PLAIN, {("a", "b"): {("l", "l"): (2, 2), ("l", "r"): (0, 0), ("r", "l"): (0, 0), ("r", "r"): (1, 1)}})


def odd_values():
    """Any values, new each time: such as can be keys of a dict and such as cannot."""
    deep = []
    for _ in range(22):
        deep = [deep]
    return [
        None, True, False, 0, 1, -1, 2, GREAT, -GREAT, 10 ** 900, "", " ", "a", "l", "r", "A", "abcdefgh", "abcdefghi",
        "a\n", "\n", "\na", "l,r", "a.l", "a b", "~", "a" * 10000, "lr", "ll", b"", b"l", b"lr", bytearray(b"l"),
        [], (), {}, set(), frozenset(), range(2), Ellipsis, NotImplemented, int, len, iter([]), deep, [0] * 9999,
        ["l", "l"], ["l", "r"], ("l",), ("l", "l", "l"), ("l", "x"), ("x", "l"), ("l", "L"), ("l", 0), ("l", None),
        ("l", b"l"), ("l", ["l"]), (["l"], "l"), (("l",), "l"), (("l", "l"),), [("l", "l")], {"l", "r"},
        frozenset(["l", "r"]), {"l": "l"}, {"l": "r", "r": "l"}, {("l", "l"): 0}, ({}, {}), ([], []), ((), ()),
        ("a", "a"), ("a", "b"), ("b", "a"), ["a", "b"], ("a", "l", "r"), ("c", "l"), ["c", "l"], ("a",), ["a"],
        ("a", ("l", "l")), ("a", ("x",)), ("a", ()), ("a", ["l"]), ["a", ("l",)], ("a", "l"), (("l",), "a"),
        (meet(), "l"), ("l", meet()), [meet()], meet(), lone(), two_roads(), one_tie(), Wrong(0), NoStanding([]),
        HeightError(), {"a": meet()}, {1: 2}, {None: []}, {("l", "l"): meet()}, {"a": []}, {"a": "lr"}, {"a": {}},
        {"a": ["l", "l"]}, {"a": [[]]}, {"a": [0]}, {"a": ["x"]}, {"c": ["l"]}, {1: ["l"]}, {("a",): ["l"]},
        {"a": None}, {"a": ["l", "r"], "b": [{}]},
    ]


def shape_of(sizes):
    return {CHOOSERS[at]: list(WAYS[at][:size]) for at, size in enumerate(sizes)}


def standings_of(shape):
    return list(itertools.product(*[sorted(shape[chooser]) for chooser in sorted(shape)]))


def any_game(draw, sizes, bound=9):
    shape = shape_of(sizes)
    return Game(shape, {standing: [draw.randint(-bound, bound) for _ in sizes] for standing in standings_of(shape)})


def heights_and_extras(draw, sizes, bound=9):
    """A height and extras along all lines."""
    shape = shape_of(sizes)
    standings = standings_of(shape)
    heights = {standing: draw.randint(-bound, bound) for standing in standings}
    extras = {}
    for standing in standings:
        for at in range(len(sizes)):
            extras.setdefault((CHOOSERS[at], standing[:at] + standing[at + 1:]), draw.randint(-bound, bound))
    return heights, extras


def steep_game(draw, sizes, bound=9):
    """A game that has a height by steps."""
    heights, extras = heights_and_extras(draw, sizes, bound)
    gains = {}
    for standing in heights:
        gains[standing] = [heights[standing] + extras[(CHOOSERS[at], standing[:at] + standing[at + 1:])]
                           for at in range(len(sizes))]
    return Game(shape_of(sizes), gains)


def bent_game(draw, sizes, bound=9):
    """A game that has a height by steps but for one gain."""
    game = steep_game(draw, sizes, bound)
    standing = draw.choice(game.standings())
    gains = list(game.gains(standing))
    gains[draw.randrange(len(gains))] += draw.choice((-bound, -1, 1, bound))
    return game.with_gains(standing, gains)


def doing(standing, change):
    at = CHOOSERS.index(change[0])
    return standing[:at] + (change[1],) + standing[at + 1:]


def through(row):
    """The standings that a row comes through, of a shape with the names above."""
    places = [tuple(row[0])]
    for change in row[1]:
        places.append(doing(places[-1], change))
    return places


def walk(draw, game, standing, many):
    """Changes at random from a standing."""
    changes = []
    for _ in range(many):
        choice = game.changes(standing)
        if not choice:
            break
        changes.append(draw.choice(choice))
        standing = doing(standing, changes[-1])
    return changes


def way_home(draw, here, goal):
    """Changes from a standing to another one, the choosers in any order."""
    changes = [(CHOOSERS[at], way) for at, way in enumerate(goal) if way != here[at]]
    draw.shuffle(changes)
    return changes


def turned_about(ring):
    """The ring gone through the other way."""
    places = through(ring)
    back = []
    for at in range(len(ring[1]) - 1, -1, -1):
        chooser = ring[1][at][0]
        back.append((chooser, places[at][CHOOSERS.index(chooser)]))
    return (places[0], back)


def rings(draw, game):
    """Rings of many kinds, of at most sixty changes."""
    start = draw.choice(game.standings())
    if not game.changes(start):
        return []
    found = []
    for many in (1, 2, 5, 12, 25):
        changes = walk(draw, game, start, many)
        end = through((start, changes))[-1]
        home = way_home(draw, end, start)
        if changes or home:
            ring = (start, changes + home)
            found.extend([ring, turned_about(ring), (start, ring[1] + ring[1]), (start, ring[1] + turned_about(ring)[1])])
    for change in game.changes(start):
        line = [other for other in game.changes(start) if other[0] == change[0]]
        found.append((start, line + [(change[0], start[CHOOSERS.index(change[0])])]))
    changes = walk(draw, game, start, 56)
    long_ring = (list(start), [list(change) for change in changes])
    long_ring[1].extend(way_home(draw, through(long_ring)[-1], start))
    found.append(long_ring)
    return [ring for ring in found if ring[1]]


class Checks(unittest.TestCase):
    """Assertions that the tests share."""

    def exact(self, found, wanted):
        """Equal in kind too: a list is no tuple, True is not 1, the keys of dicts have the same order."""
        self.assertEqual(repr(found), repr(wanted))

    def truth(self, found, wanted):
        self.assertIs(found, wanted)

    def raised(self, kind, call, *given):
        """The error, of just this class, that a call raises."""
        with self.assertRaises(HeightError) as caught:
            call(*given)
        self.assertIs(caught.exception.__class__, kind)
        return caught.exception

    def wrong_at(self, place, call, *given):
        self.exact(self.raised(Wrong, call, *given).place, place)

    def unchanged(self, call, *given):
        """What a call returns, which changes none of what it is given, and tells the same when it is asked again."""
        before = copy.deepcopy(given)
        result = call(*given)
        self.assertEqual(given, before)
        self.assertEqual(call(*given), result)
        return result


def drawing(seed):
    return random.Random(seed)
