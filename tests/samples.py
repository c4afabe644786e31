"""Games, rings and odd values that the tests share."""

import copy
import itertools
import random
import unittest

from heightgames.back import Seen
from heightgames.desk import Desk, Walk
from heightgames.errors import HeightError, NoStanding, Wrong
from heightgames.facts import Facts
from heightgames.games import Game
from heightgames.roads import Roads
from heightgames.ties import Ties

PLAIN = {"a": ["l", "r"], "b": ["l", "r"]}
GREAT = 10 ** 60

# Choosers and ways have names apart, so that one mapping of strings renames both.
CHOOSERS = ("ann", "bob", "cid", "dora")
WAYS = tuple(tuple(first + way for way in ("east", "north", "south", "west")) for first in "abcd")

SIZES = [sizes for many in (1, 2, 3, 4) for sizes in itertools.product((1, 2, 3, 4), repeat=many)
         if len(list(itertools.product(*map(range, sizes)))) <= 81]
SOME_SIZES = [(1,), (2,), (4,), (1, 1), (1, 3), (2, 2), (4, 3), (4, 4), (2, 1, 3), (3, 3, 3), (4, 4, 4),
              (1, 1, 1, 1), (2, 2, 2, 2), (4, 1, 2, 3), (3, 3, 3, 3)]
SMALL_SIZES = [(1,), (4,), (1, 3), (2, 2), (4, 3), (2, 1, 3), (2, 2, 2), (2, 2, 2, 2)]
GREAT_SIZES = [(4, 4, 4), (3, 3, 3, 3)]


def meet():
    return Game(PLAIN, {("l", "l"): (2, 2), ("l", "r"): (0, 0), ("r", "l"): (0, 0), ("r", "r"): (1, 1)})


def flee():
    return Game(PLAIN, {("l", "l"): (1, 0), ("l", "r"): (0, 1), ("r", "l"): (0, 1), ("r", "r"): (1, 0)})


def lone():
    return Game({"c": ["u", "v"]}, {("u",): (0,), ("v",): (1,)})


def two_roads():
    return Roads({"a": {"h": ["x"], "l": ["y"]}, "b": {"h": ["x"], "l": ["y"]}}, {"x": [1, 3], "y": [2, 2]})


def one_tie():
    return Ties(PLAIN, {("a", "b"): {("l", "l"): (2, 2), ("l", "r"): (0, 0), ("r", "l"): (0, 0), ("r", "r"): (1, 1)}})


def some_facts():
    facts = Facts(PLAIN)
    facts.tell(("a", ("l",)), (("r",), ("l",)))
    return facts


def odd_values():
    """Any values, new each time: such as can be keys of a dict and such as cannot."""
    deep = []
    for _ in range(22):
        deep = [deep]
    return [
        None, True, False, 0, 1, -1, 2, GREAT, -GREAT, 10 ** 900, "", " ", "a", "l", "r", "A", "abcdefgh", "abcdefghi",
        "a\n", "\n", "\na", "l,r", "a.l", "a b", "~", "a" * 10000, "lr", "ll", b"", b"l", b"lr", bytearray(b"l"),
        [], (), {}, set(), frozenset(), range(2), Ellipsis, NotImplemented, int, len, iter([]), deep, [0] * 9999,
        ["l", "l"], ["l", "r"], ("l",), ("l", "l", "l"), ("l", "x"), ("x", "l"), ("l", "L"), ("l", 0), ("l", None),
        ("l", b"l"), ("l", ["l"]), (["l"], "l"), (("l",), "l"), (("l", "l"),), [("l", "l")], {"l", "r"},
        frozenset(["l", "r"]), {"l": "l"}, {"l": "r", "r": "l"}, {("l", "l"): 0}, ({}, {}), ([], []), ((), ()),
        ("a", "a"), ("a", "b"), ("b", "a"), ["a", "b"], ("a", "l", "r"), ("c", "l"), ["c", "l"], ("a",), ["a"],
        ("a", ("l", "l")), ("a", ("x",)), ("a", ()), ("a", ["l"]), ["a", ("l",)], ("a", "l"), (("l",), "a"),
        (meet(), "l"), ("l", meet()), [meet()], meet(), lone(), two_roads(), one_tie(), some_facts(),
        Seen(PLAIN), Walk(meet(), ("l", "l")), Desk(), (Desk(), "l"), {"a": Desk()}, {Desk(): 0}, Wrong(0), NoStanding([]),
        HeightError(), {"a": meet()}, {1: 2}, {None: []}, {("l", "l"): meet()}, {"a": []}, {"a": "lr"}, {"a": {}},
        {"a": ["l", "l"]}, {"a": [[]]}, {"a": [0]}, {"a": ["x"]}, {"c": ["l"]}, {1: ["l"]}, {("a",): ["l"]},
        {"a": None}, {"a": ["l", "r"], "b": [{}]},
    ]


def shape_of(sizes):
    return {CHOOSERS[at]: list(WAYS[at][:size]) for at, size in enumerate(sizes)}


def standings_of(shape):
    return list(itertools.product(*[sorted(shape[chooser]) for chooser in sorted(shape)]))


def any_game(draw, sizes, bound=9):
    shape = shape_of(sizes)
    return Game(shape, {standing: [draw.randint(-bound, bound) for _ in sizes] for standing in standings_of(shape)})


def heights_and_extras(draw, sizes, bound=9):
    """A height and extras along all lines."""
    shape = shape_of(sizes)
    standings = standings_of(shape)
    heights = {standing: draw.randint(-bound, bound) for standing in standings}
    extras = {}
    for standing in standings:
        for at in range(len(sizes)):
            extras.setdefault((CHOOSERS[at], standing[:at] + standing[at + 1:]), draw.randint(-bound, bound))
    return heights, extras


def steep_game(draw, sizes, bound=9):
    """A game that has a height by steps."""
    heights, extras = heights_and_extras(draw, sizes, bound)
    gains = {}
    for standing in heights:
        gains[standing] = [heights[standing] + extras[(CHOOSERS[at], standing[:at] + standing[at + 1:])]
                           for at in range(len(sizes))]
    return Game(shape_of(sizes), gains)


def bent_game(draw, sizes, bound=9):
    """A game that has a height by steps but for one gain."""
    game = steep_game(draw, sizes, bound)
    standing = draw.choice(game.standings())
    gains = list(game.gains(standing))
    gains[draw.randrange(len(gains))] += draw.choice((-bound, -1, 1, bound))
    return game.with_gains(standing, gains)


def flat_game(draw, sizes, bound=9):
    """A game in which nobody gains by any change."""
    return steep_game(draw, sizes, bound).times(0)


def weighted_game(draw, sizes, bound=9):
    """A game that has a height by weights: the height times a factor for each chooser, with extras."""
    heights, extras = heights_and_extras(draw, sizes, bound)
    factors = [draw.choice((1, 2, 3, 4, 6)) for _ in sizes]
    gains = {standing: [factor * heights[standing] + extras[(CHOOSERS[at], standing[:at] + standing[at + 1:])]
                        for at, factor in enumerate(factors)] for standing in heights}
    return Game(shape_of(sizes), gains)


def rising_game(draw, sizes, bound, gains_along):
    """A game whose gains along each line come of the heights there, by a function."""
    heights, extras = heights_and_extras(draw, sizes, min(bound, 9))
    gains = {standing: [None] * len(sizes) for standing in heights}
    for chooser, others in extras:
        at = CHOOSERS.index(chooser)
        along = [others[:at] + (way,) + others[at:] for way in shape_of(sizes)[chooser]]
        found = gains_along(draw, [heights[standing] for standing in along], bound)
        for standing, gain in zip(along, found):
            gains[standing][at] = gain
    return Game(shape_of(sizes), gains)


def signed_game(draw, sizes, bound=9):
    """A game that has a height by signs: gains along a line are in the order of the heights."""
    def gains_along(draw, heights, bound):
        numbers = set()
        while len(numbers) < len(set(heights)):
            numbers.add(draw.randint(-bound - 3, bound + 3))
        numbers = sorted(numbers)
        return [numbers[sorted(set(heights)).index(height)] for height in heights]
    return rising_game(draw, sizes, bound, gains_along)


def climbing_game(draw, sizes, bound=9):
    """A game that has a height by betterings: who gains more is higher, but not the other way about."""
    def gains_along(draw, heights, bound):
        numbers = sorted(draw.randint(-bound, bound) for _ in set(heights))
        return [numbers[sorted(set(heights)).index(height)] for height in heights]
    return rising_game(draw, sizes, bound, gains_along)


def best_game(draw, sizes, bound=9):
    """A game that has a height by best betterings: the best ways of a line are its highest standings."""
    def gains_along(draw, heights, bound):
        low = draw.choice(sorted(set(heights)))
        return [bound + 1 if height >= low else draw.randint(-bound, bound) for height in heights]
    return rising_game(draw, sizes, bound, gains_along)


def tied_game(draw, sizes, bound=9, pairs=6):
    """A game made of ties, some of them with a height by weights."""
    shape = shape_of(sizes)
    tables = {}
    both = list(itertools.combinations(sorted(shape), 2))
    for one, other in draw.sample(both, min(pairs, len(both))):
        factors = draw.choice(((1, 1), (1, 2), (3, 1), (0, 1), None))
        tables[(one, other)] = {}
        for place in itertools.product(shape[one], shape[other]):
            common = draw.randint(-bound, bound)
            gains = (draw.randint(-bound, bound), common) if factors is None else (factors[0] * common, factors[1] * common)
            tables[(one, other)][place] = gains
    return Ties(shape, tables).game()


def with_extras(draw, game, bound=9):
    """The game with extras along some lines."""
    for _ in range(6):
        standing = draw.choice(game.standings())
        at = draw.randrange(len(standing))
        game = game.with_extra(game.choosers()[at], standing[:at] + standing[at + 1:], draw.randint(-bound, bound))
    return game


def side_by_side(game, other):
    """The game of the choosers of both, named anew, each of which gains what it gains in its own."""
    sizes = [len(asked.ways(chooser)) for asked in (game, other) for chooser in asked.choosers()]
    pairs = list(itertools.product(game.standings(), other.standings()))
    standings = standings_of(shape_of(sizes))
    return Game(shape_of(sizes), {standing: game.gains(one) + other.gains(two) for standing, (one, two) in zip(standings, pairs)})


MAKERS = (steep_game, bent_game, any_game, flat_game, weighted_game, signed_game, climbing_game, best_game, tied_game)


def games(draw, all_sizes, bounds=(1, 9, GREAT)):
    """Games of all kinds."""
    for sizes in all_sizes:
        for make in MAKERS:
            for bound in bounds:
                yield make(draw, sizes, bound)


def small_and_great_games(draw):
    """Many small games of all kinds, and some of many standings."""
    yield from games(draw, SMALL_SIZES, (1, GREAT))
    yield from games(draw, GREAT_SIZES, (9,))


def doing(standing, change):
    at = CHOOSERS.index(change[0])
    return standing[:at] + (change[1],) + standing[at + 1:]


def through(row):
    """The standings that a row comes through, of a shape with the names above."""
    places = [tuple(row[0])]
    for change in row[1]:
        places.append(doing(places[-1], change))
    return places


def walk(draw, game, standing, many):
    """Changes at random from a standing."""
    changes = []
    for _ in range(many):
        choice = game.changes(standing)
        if not choice:
            break
        changes.append(draw.choice(choice))
        standing = doing(standing, changes[-1])
    return changes


def way_home(draw, here, goal):
    """Changes from a standing to another one, the choosers in any order."""
    changes = [(CHOOSERS[at], way) for at, way in enumerate(goal) if way != here[at]]
    draw.shuffle(changes)
    return changes


def turned_about(ring):
    """The ring gone through the other way."""
    places = through(ring)
    back = []
    for at in range(len(ring[1]) - 1, -1, -1):
        chooser = ring[1][at][0]
        back.append((chooser, places[at][CHOOSERS.index(chooser)]))
    return (places[0], back)


def rings(draw, game):
    """Rings of many kinds, of at most sixty changes."""
    start = draw.choice(game.standings())
    if not game.changes(start):
        return []
    found = []
    for many in (1, 2, 5, 12, 25):
        changes = walk(draw, game, start, many)
        end = through((start, changes))[-1]
        home = way_home(draw, end, start)
        if changes or home:
            ring = (start, changes + home)
            found.extend([ring, turned_about(ring), (start, ring[1] + ring[1]), (start, ring[1] + turned_about(ring)[1])])
    for change in game.changes(start):
        line = [other for other in game.changes(start) if other[0] == change[0]]
        found.append((start, line + [(change[0], start[CHOOSERS.index(change[0])])]))
    changes = walk(draw, game, start, 56)
    long_ring = (list(start), [list(change) for change in changes])
    long_ring[1].extend(way_home(draw, through(long_ring)[-1], start))
    found.append(long_ring)
    return [ring for ring in found if ring[1]]


def begun_at(game, ring, at):
    """The same ring, begun at another of its standings."""
    standing = tuple(ring[0])
    for change in ring[1][:at]:
        standing = game.goal(standing, change)
    return (standing, ring[1][at:] + ring[1][:at])


def same_rings(game, ring):
    """The same ring: with lists, begun elsewhere, gone through twice."""
    lists = [list(ring[0]), [list(change) for change in ring[1]]]
    return [ring, lists, (ring[0], tuple(ring[1])), (ring[0], ring[1] * 2),
            begun_at(game, ring, 1), begun_at(game, ring, len(ring[1]) - 1)]


def not_rings(ring):
    """What is like a ring, but is none."""
    standing, changes = ring
    return [(standing, changes[:-1]), (standing, changes[1:]), (standing, []), (standing,), (standing, changes, changes), standing,
            changes, {standing: changes}, {0: standing, 1: changes}, (standing, {change: 1 for change in changes}),
            (standing, changes + [changes[-1]]), (standing, [changes[0]] + changes), (standing[:-1], changes), (changes, standing),
            (standing, changes[:-1] + [None]), (standing, changes[:-1] + [changes[-1] + ("l",)]), (standing, changes * 60),
            (standing[:-1] + (1,), changes), (standing[:-1] + ([],), changes), (frozenset(standing), changes),
            (standing, [frozenset(change) for change in changes]), (standing, changes[:-1] + [("zoe", "z")]), [ring], (ring,)]


def not_numbers(numbers):
    """What is like a dict from just some standings to integers, but is none."""
    standings = list(numbers)
    last = standings[-1]
    less = {standing: numbers[standing] for standing in standings[:-1]}
    found = [less, {}, list(numbers.items()), standings, tuple(numbers.items()), {**numbers, "ll": 0}, {**numbers, (): 0},
             {**numbers, last + last[:1]: 0}, {**numbers, last[:-1]: 0}, {**less, last[:-1] + ("zz",): numbers[last]},
             {**less, last[:-1] + (1,): numbers[last]}, {**less, None: numbers[last]}, {**less, frozenset(last): numbers[last]},
             {**less, (last,): numbers[last]}, {**numbers, True: 1}, {numbers[standing]: standing for standing in standings}]
    found.extend({**numbers, last: value} for value in odd_values() if value.__class__ is not int)
    found.extend({standing: value for standing in standings} for value in (None, True, "1", [0], (0,)))
    return found


class Checks(unittest.TestCase):
    """Assertions that the tests share."""

    def exact(self, found, wanted):
        """Equal in kind too: a list is no tuple, True is not 1, the keys of dicts have the same order."""
        self.assertEqual(repr(found), repr(wanted))

    def truth(self, found, wanted):
        self.assertIs(found, wanted)

    def raised(self, kind, call, *given):
        """The error, of just this class, that a call raises."""
        with self.assertRaises(HeightError) as caught:
            call(*given)
        self.assertIs(caught.exception.__class__, kind)
        return caught.exception

    def wrong_at(self, place, call, *given):
        self.exact(self.raised(Wrong, call, *given).place, place)

    def unchanged(self, call, *given, **more):
        """What a call returns, which changes none of what it is given, and tells the same when it is asked again."""
        before = copy.deepcopy(given)
        result = call(*given, **more)
        self.assertEqual(given, before)
        self.assertEqual(call(*given, **more), result)
        return result

    def new_each_time(self, call, *given, **more):
        """What a call returns may be changed by the caller, through and through."""
        before = copy.deepcopy(given)
        result = call(*given, **more)
        kept = copy.deepcopy(result)
        spoil(result)
        self.assertEqual(given, before)
        self.exact(call(*given, **more), kept)
        return kept


def spoil(thing):
    """Change all lists and dicts in a value."""
    if isinstance(thing, dict):
        for worth in thing.values():
            spoil(worth)
        thing[("spoilt",)] = []
    elif isinstance(thing, (list, tuple)):
        for item in thing:
            spoil(item)
        if isinstance(thing, list):
            thing.append("spoilt")


def drawing(seed):
    return random.Random(seed)
