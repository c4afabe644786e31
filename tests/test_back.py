"""Point 101: what was seen of a game that nobody told."""

import itertools
import unittest

from heightgames.back import Seen
from heightgames.betterings import betterings, is_rest, rests
from heightgames.errors import NoChange, NoHeight, NoStanding, Nothing
from heightgames.games import Game
from heightgames.kinds import is_shape
from tests.samples import (
    GREAT, PLAIN, SIZES, SOME_SIZES, Checks, any_game, climbing_game, drawing, lone, meet, not_numbers, odd_values, shape_of, spoil,
    steep_game,
)


def place_changes(shape, standing):
    """The dict from the changes at a standing to the standings to which they lead."""
    names = sorted(shape)
    return {(name, way): standing[:at] + (way,) + standing[at + 1:]
            for at, name in enumerate(names) for way in sorted(shape[name]) if way != standing[at]}


def arrows(shape, told):
    """The tuples (standing, other, word) of all that was seen."""
    found = set()
    for item in told:
        goals = place_changes(shape, item[1])
        if item[0] == "better":
            found.add((item[1], goals[item[2]], "better"))
        else:
            found.update((goal, item[1], "rest") for goal in goals.values())
    return found


def do_fit(numbers, every):
    return all(numbers[other] > numbers[standing] if word == "better" else numbers[other] >= numbers[standing]
               for standing, other, word in every)


def least(places, every):
    """The least numbers that fit, or None."""
    numbers = {place: 0 for place in places}
    for _ in range(len(places) + 1):
        for standing, other, word in every:
            numbers[other] = max(numbers[other], numbers[standing] + (word == "better"))
    return numbers if do_fit(numbers, every) else None


def ring_length(places, every):
    """The least number of arrows that lead back, at least one of them "better", or None."""
    found = []
    for start in places:
        ahead, many, seen = {(start, False)}, 0, set()
        while ahead and (start, True) not in ahead:
            seen |= ahead
            ahead = {(other, strict or word == "better") for place, strict in ahead for standing, other, word in every if standing == place}
            ahead -= seen
            many += 1
        if ahead:
            found.append(many)
    return min(found, default=None)


def seen_of(shape, told):
    seen = Seen(shape)
    for item in told:
        if item[0] == "better":
            seen.saw(item[1], item[2])
        else:
            seen.rested(item[1])
    return seen


def any_told(draw, game, many):
    """Things that may be seen at random, of the same kind as a Seen gives them."""
    told = []
    for _ in range(many):
        standing = draw.choice(game.standings())
        if game.changes(standing) and draw.randrange(3):
            told.append(("better", standing, draw.choice(game.changes(standing))))
        else:
            told.append(("rest", standing))
    return told


def true_told(draw, game, many):
    """Things that are so in a game."""
    every = [("better", standing, change) for standing in game for change in betterings(game, standing)]
    every += [("rest", standing) for standing in rests(game)]
    return [draw.choice(every) for _ in range(many)]


class Back(Checks):
    def check(self, shape, told):
        """Check what is told of what was seen; return whether a height fits."""
        seen = seen_of(shape, told)
        self.assertEqual(len(seen), len(told))
        self.exact(list(seen), told)
        places = list(itertools.product(*[sorted(shape[name]) for name in sorted(shape)]))
        every = arrows(shape, told)
        numbers = least(places, every)
        found = seen.height()
        self.exact(found, numbers)
        self.exact(seen.height(), found)
        against = seen.against()
        self.assertIs(against is None, found is not None)
        if found is not None:
            self.check_game(seen, found, told)
            return True
        self.raised(NoHeight, seen.game)
        self.check_against(seen, every, against)
        self.assertEqual(len(against), ring_length(places, every))
        self.exact(list(seen), told)
        return False

    def check_game(self, seen, found, told):
        self.truth(seen.fits(found), True)
        game = seen.game()
        self.exact({standing: game.gains(standing) for standing in game}, {place: (found[place],) * len(place) for place in found})
        for item in told:
            if item[0] == "better":
                self.assertGreater(game.own(item[1], item[2]), 0)
            else:
                self.truth(is_rest(game, item[1]), True)

    def check_against(self, seen, every, against):
        self.assertIs(against.__class__, list)
        self.assertTrue(all(item.__class__ is tuple for item in against))
        self.assertTrue(all(item in every for item in against))
        self.assertIn("better", [item[2] for item in against])
        for item, behind in zip(against, against[1:] + against[:1]):
            self.assertEqual(item[1], behind[0])
        self.truth(seen.is_against(against), True)

    def test_anything_seen(self):
        draw = drawing(1701)
        met = set()
        for sizes in ((1,), (2,), (4,), (1, 3), (2, 2), (3, 2), (2, 2, 2), (3, 1, 3), (2, 2, 2, 2)):
            game = any_game(draw, sizes)
            for many in (0, 1, 2, 3, 4, 6, 9, 14):
                for _ in range(2):
                    met.add(self.check(game.shape(), any_told(draw, game, many)))
        self.assertEqual(met, {True, False})

    def test_what_is_so_in_a_game(self):
        draw = drawing(1702)
        met = set()
        for sizes in SOME_SIZES[:-1]:
            for make in (climbing_game, steep_game, any_game):
                game = make(draw, sizes, 3)
                if rests(game):
                    met.add((make is any_game, self.check(game.shape(), true_told(draw, game, draw.choice((1, 2, 8)) * len(game)))))
        self.assertEqual(met, {(False, True), (True, True), (True, False)})

    def test_great_shapes(self):
        draw = drawing(1703)
        game = climbing_game(draw, (3, 3, 3, 3))
        self.assertIs(self.check(game.shape(), true_told(draw, game, 200)), True)
        told = true_told(draw, any_game(draw, (3, 3, 3, 3)), 150)
        self.assertIs(seen_of(game.shape(), told).height() is None, seen_of(game.shape(), told).against() is not None)

    def test_all_shapes(self):
        for sizes in SIZES[::9]:
            seen = Seen(shape_of(sizes))
            self.exact((len(seen), list(seen), seen.against()), (0, [], None))
            self.exact(seen.height(), {place: 0 for place in itertools.product(*shape_of(sizes).values())})

    def test_one_behind_the_other(self):
        draw = drawing(1704)
        game = any_game(draw, (2, 3))
        told = any_told(draw, game, 12)
        seen = Seen(game.shape())
        for at, item in enumerate(told):
            if item[0] == "better":
                self.assertIs(seen.saw(item[1], list(item[2]) if at % 2 else item[2]), None)
            else:
                self.assertIs(seen.rested(item[1]), None)
            self.exact(list(seen), told[:at + 1])
            self.assertEqual(len(seen), at + 1)
        for at in range(len(told) - 1, -1, -1):
            self.exact(seen.undo(), told[at])
            self.exact(list(seen), told[:at])
            self.assertEqual(len(seen), at)
            self.exact(seen.height(), least(game.standings(), arrows(game.shape(), told[:at])))
        for _ in range(2):
            self.raised(Nothing, seen.undo)
            self.assertEqual(len(seen), 0)

    def test_the_document(self):
        seen = Seen(PLAIN)
        seen.saw(("l", "r"), ("a", "r"))
        seen.rested(("l", "l"))
        self.exact([len(seen), seen.height(), seen.against()],
                   [2, {("l", "l"): 0, ("l", "r"): 0, ("r", "l"): 0, ("r", "r"): 1}, None])
        seen.saw(("l", "l"), ["b", "r"])
        self.assertEqual(len(seen.against()), 2)
        self.exact(seen.height(), None)
        self.exact(list(seen), [("better", ("l", "r"), ("a", "r")), ("rest", ("l", "l")), ("better", ("l", "l"), ("b", "r"))])

    def test_the_same_again(self):
        told = [("better", ("l", "r"), ("a", "r")), ("rest", ("l", "l"))]
        seen = seen_of(PLAIN, told * 3)
        self.exact(list(seen), told * 3)
        self.exact(seen.height(), seen_of(PLAIN, told).height())
        seen.undo()
        self.exact(list(seen), told * 2 + told[:1])

    def test_edges(self):
        seen = Seen({"a": ["l"]})
        self.exact(seen.height(), {("l",): 0})
        seen.rested(("l",))
        self.exact(seen.height(), {("l",): 0})
        self.raised(NoChange, seen.saw, ("l",), ("a", "l"))
        line = Seen({"c": ["w", "t", "v", "u"]})
        for way, by in (("t", "u"), ("u", "v"), ("v", "w")):
            line.saw((way,), ("c", by))
        self.exact(line.height(), {("t",): 0, ("u",): 1, ("v",): 2, ("w",): 3})
        line.rested(("t",))
        self.exact(line.against(), line.against())
        self.assertEqual(len(line.against()), 2)
        line.undo()
        line.rested(("w",))
        self.exact(line.height(), {("t",): 0, ("u",): 1, ("v",): 2, ("w",): 3})
        line.saw(("w",), ("c", "t"))
        self.assertEqual(len(line.against()), 2)


class Given(Checks):
    def test_what_is_no_shape(self):
        for thing in odd_values():
            if not is_shape(thing):
                self.wrong_at(0, Seen, thing)
            else:
                self.assertEqual(len(Seen(thing)), 0)

    def test_what_is_no_standing_and_no_change(self):
        seen = seen_of(PLAIN, [("rest", ("l", "l"))])
        kept = list(seen)
        for thing in odd_values():
            if thing not in meet():
                for change in (("a", "r"), None, ("a", "x")):
                    self.assertIs(self.raised(NoStanding, seen.saw, thing, change).standing, thing)
                self.assertIs(self.raised(NoStanding, seen.rested, thing).standing, thing)
            if thing not in (("a", "r"), ("b", "r"), ["a", "r"], ["b", "r"]):
                self.assertIs(self.raised(NoChange, seen.saw, ("l", "l"), thing).change, thing)
        for thing in (("a", "l"), ("b", "x"), ("c", "l"), ("a", "r", "r"), (("a", "r"),), ["a", "l"], {"a": "r"}):
            self.assertIs(self.raised(NoChange, seen.saw, ("l", "l"), thing).change, thing)
        self.assertIs(self.raised(NoStanding, seen.rested, ["l", "l"]).standing.__class__, list)
        self.exact(list(seen), kept)

    def test_what_is_handed_in_may_change(self):
        shape = {"b": ["r", "l"], "a": ["l", "r"]}
        seen = Seen(shape)
        change = ["a", "r"]
        seen.saw(("l", "l"), change)
        change[1] = "l"
        shape["a"].append("m")
        del shape["b"]
        self.exact(list(seen), [("better", ("l", "l"), ("a", "r"))])
        self.exact(seen.height(), {("l", "l"): 0, ("l", "r"): 0, ("r", "l"): 1, ("r", "r"): 0})
        self.exact(seen.game().shape(), PLAIN)

    def test_what_is_returned_is_new(self):
        seen = seen_of(PLAIN, [("better", ("l", "r"), ("a", "r"))])
        found = seen.height()
        spoil(found)
        self.exact(seen.height(), {("l", "l"): 0, ("l", "r"): 0, ("r", "l"): 0, ("r", "r"): 1})
        spoil(list(seen))
        seen.rested(("l", "r"))
        against = seen.against()
        kept = list(against)
        spoil(against)
        self.exact(seen.against(), kept)
        self.exact(len(seen), 2)

    def test_two_know_nothing_of_one_another(self):
        one, other = Seen(PLAIN), Seen(PLAIN)
        one.rested(("l", "l"))
        self.exact((len(one), len(other)), (1, 0))
        self.assertNotEqual(one, other)
        self.assertNotEqual(one, [("rest", ("l", "l"))])


class Fits(Checks):
    def test_numbers_otherwise(self):
        draw = drawing(1711)
        met = set()
        for sizes in ((4,), (2, 2), (3, 2), (2, 2, 2)):
            for _ in range(6):
                game = any_game(draw, sizes)
                told = any_told(draw, game, draw.randint(0, 5))
                seen, every = seen_of(game.shape(), told), arrows(game.shape(), told)
                found = seen.height() or {place: 0 for place in game}
                for place in game:
                    for number in (-1, 1, 2, -GREAT, GREAT):
                        other = {**found, place: found[place] + number}
                        self.truth(seen.fits(other), do_fit(other, every))
                        met.add(do_fit(other, every))
                for more in (1, -GREAT):
                    other = {place: found[place] + more for place in reversed(found)}
                    self.truth(seen.fits(other), do_fit(found, every))
        self.assertEqual(met, {True, False})

    def test_what_does_not_fit(self):
        seen = Seen(PLAIN)
        nothing = {place: 0 for place in meet()}
        self.truth(seen.fits(nothing), True)
        for thing in odd_values() + not_numbers(nothing):
            self.truth(seen.fits(thing), False)
        seen.saw(("l", "l"), ("a", "r"))
        self.truth(seen.fits(nothing), False)
        self.truth(seen.fits({**nothing, ("r", "l"): 1}), True)
        self.truth(Seen({"c": ["u", "v"]}).fits({("u",): 5, ("v",): -5}), True)
        self.truth(Seen(lone().shape()).fits({("u",): 5}), False)


class Against(Checks):
    def test_lists_otherwise(self):
        draw = drawing(1721)
        met = set()
        for sizes in ((4,), (2, 2), (3, 2), (2, 2, 2)):
            for _ in range(8):
                game = any_game(draw, sizes)
                told = any_told(draw, game, 9)
                seen, every = seen_of(game.shape(), told), arrows(game.shape(), told)
                good = seen.against()
                if good is None:
                    continue
                others = [good[1:] + good[:1], good * 2, good * 5, good[:-1], good[1:], good[::-1], good + good[:1], [good[0]] + good]
                for at, (standing, other, word) in enumerate(good):
                    for changed in ((standing, other, "rest"), (standing, other, "better"), (other, standing, word), (standing, standing, word)):
                        others.append(good[:at] + [changed] + good[at + 1:])
                    others.extend(good[:at] + [more] + good[at:] for more in sorted(every)[:9])
                for thing in others:
                    wanted = self.holds(every, thing)
                    self.truth(seen.is_against(thing), wanted)
                    met.add(wanted)
        self.assertEqual(met, {True, False})

    def holds(self, every, thing):
        return (bool(thing) and all(item in every for item in thing) and any(item[2] == "better" for item in thing)
                and all(item[1] == behind[0] for item, behind in zip(thing, thing[1:] + thing[:1])))

    def test_both_words(self):
        # From (l, l) a change was seen as a bettering, and where it leads was seen as a rest.
        seen = seen_of(PLAIN, [("better", ("l", "l"), ("a", "r")), ("rest", ("r", "l")), ("rest", ("l", "l"))])
        there, back = (("l", "l"), ("r", "l")), (("r", "l"), ("l", "l"))
        self.exact(seen.against(), seen.against())
        for words, wanted in ((("better", "rest"), True), (("rest", "rest"), False), (("rest", "better"), False), (("better", "better"), False)):
            self.truth(seen.is_against([there + words[:1], back + words[1:]]), wanted)
            self.truth(seen.is_against([back + words[1:], there + words[:1]]), wanted)
        long_one = [there + ("rest",), back + ("rest",)] * 800 + [there + ("better",), back + ("rest",)]
        self.truth(seen.is_against(long_one), True)
        self.truth(seen.is_against(long_one[:-2]), False)

    def test_what_is_not_against(self):
        seen = seen_of(PLAIN, [("better", ("l", "l"), ("a", "r")), ("rest", ("l", "l"))])
        good = [(("l", "l"), ("r", "l"), "better"), (("r", "l"), ("l", "l"), "rest")]
        self.truth(seen.is_against(good), True)
        self.truth(seen.is_against(good[::-1]), True)
        first, last = good
        bad = [tuple(good), [list(item) for item in good], [first, list(last)], [(["l", "l"], ("r", "l"), "better"), last], [], [[]], [()], [first],
               [last], [first + (0,), last], [first[:2], last], [first[:2] + (None,), last], [first[:2] + (True,), last],
               [first[:2] + (["better"],), last], [first[:2] + ("Better",), last], [first[:2] + ("",), last], [first[:2] + (meet(),), last],
               {0: first, 1: last}, dict.fromkeys(good), [None, last], first, [good], [(None, ("r", "l"), "better"), last],
               [(("l",), ("r", "l"), "better"), last], [(("l", "l"), {}, "better"), last], [("ll", "rl", "better"), ("rl", "ll", "rest")]]
        for thing in bad + odd_values() + [[thing] for thing in odd_values()] + [[first[:2] + (thing,), last] for thing in odd_values()]:
            self.truth(seen.is_against(thing), False)
        for thing in odd_values() + [[]]:
            self.truth(Seen(PLAIN).is_against(thing), False)


if __name__ == "__main__":
    unittest.main()
