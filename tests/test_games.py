"""Point 22: class Game."""

import itertools
import unittest

from heightgames.errors import NoChange, NoChooser, NoLine, NoStanding, Unlike, Wrong
from heightgames.games import Game
from tests.samples import (
    CHOOSERS, GREAT, PLAIN, SIZES, SOME_SIZES, Checks, any_game, doing, drawing, flee, lone, meet, odd_values, one_tie,
    shape_of, standings_of, two_roads,
)

LL, LR, RL, RR = ("l", "l"), ("l", "r"), ("r", "l"), ("r", "r")


def plain_gains():
    return {LL: (2, 2), LR: (0, 0), RL: (0, 0), RR: (1, 1)}


class Making(Checks):
    def test_all_shapes(self):
        draw = drawing(1)
        for sizes in SIZES:
            shape = shape_of(sizes)
            gains = {standing: tuple(draw.randint(-GREAT, GREAT) for _ in sizes) for standing in standings_of(shape)}
            game = Game(shape, gains)
            self.exact(game.choosers(), sorted(shape))
            self.exact(game.shape(), shape)
            self.exact(game.standings(), standings_of(shape))
            self.exact(list(game), standings_of(shape))
            self.exact(len(game), len(gains))
            for chooser in shape:
                self.exact(game.ways(chooser), sorted(shape[chooser]))
            for standing in gains:
                self.exact(game.gains(standing), gains[standing])
                for at, chooser in enumerate(game.choosers()):
                    self.exact(game.gain(chooser, standing), gains[standing][at])

    def test_keys_in_any_order_and_tuples_or_lists(self):
        given = {RR: [1, 1], RL: (0, 0), LL: [2, 2], LR: (0, 0)}
        for ways in ({"b": ("r", "l"), "a": ["r", "l"]}, {"b": ["l", "r"], "a": ("r", "l")}):
            game = Game(ways, given)
            self.assertEqual(game, meet())
            self.exact(game.shape(), {"a": ["l", "r"], "b": ["l", "r"]})
            self.exact(game.choosers(), ["a", "b"])
            self.exact(game.standings(), [LL, LR, RL, RR])
            self.exact(list(game), [LL, LR, RL, RR])
            self.exact(game.gains(RR), (1, 1))

    def test_wrong_ways(self):
        # Of the odd values these alone are shapes.
        bad = [thing for thing in odd_values() if thing not in [{"a": ["x"]}, {"c": ["l"]}]]
        bad += [{"a": ["l", "r"], "b": ["l", "l"]}, {"a": "lr", "b": ["l"]}, shape_of((4, 4, 3, 2)), {"A": ["l"]},
                {"a": []}, {"a": ["l", "m", "n", "o", "p"]}, {name: ["l"] for name in "abcde"}, {"abcdefghi": ["l"]}]
        for ways in bad:
            self.wrong_at(0, Game, ways, plain_gains())
            self.wrong_at(0, Game, ways, None)

    def test_81_standings_and_more(self):
        full = shape_of((3, 3, 3, 3))
        self.assertEqual(len(Game(full, {standing: (0, 0, 0, 0) for standing in standings_of(full)})), 81)
        for sizes in ((3, 3, 3, 4), (4, 4, 3, 2), (4, 4, 4, 4)):
            wide = shape_of(sizes)
            self.wrong_at(0, Game, wide, {standing: (0, 0, 0, 0) for standing in standings_of(wide)})

    def test_wrong_gains(self):
        for gains in odd_values():
            self.wrong_at(1, Game, PLAIN, gains)
            self.wrong_at(1, Game, {"a": ["l"]}, gains)
        for at in (LL, RR):
            for value in odd_values() + [(1,), (1, 2, 3), (1, True), [False, 0], ("1", "2"), (1, None), ([1], 2), "12", {1, 2},
                                         {1: 1, 2: 2}, b"12", range(2)]:
                self.wrong_at(1, Game, PLAIN, {**plain_gains(), at: value})

    def test_gains_of_other_standings(self):
        less = plain_gains()
        del less[RR]
        self.wrong_at(1, Game, PLAIN, less)
        for other in (("l",), ("r", "x"), ("r", "r", "r"), "rr", "r", 1, None, (), (("r", "r"),), b"rr", ("r", b"r"),
                      frozenset(["r"]), Wrong(0)):
            self.wrong_at(1, Game, PLAIN, {**less, other: (1, 1)})
            self.wrong_at(1, Game, PLAIN, {**plain_gains(), other: (1, 1)})

    def test_place_of_the_first_wrong_argument(self):
        self.wrong_at(0, Game, [], [])
        self.wrong_at(0, Game, {}, {})
        self.wrong_at(1, Game, PLAIN, {})

    def test_what_is_handed_in_is_copied(self):
        ways = {"b": ["r", "l"], "a": ["l", "r"]}
        gains = {RR: [1, 1], LL: [2, 2], LR: [0, 0], RL: [0, 0]}
        before = repr((ways, gains))
        game = Game(ways, gains)
        self.assertEqual(repr((ways, gains)), before)
        gains[RR][0] = 7
        gains[LL] = [5, 5]
        del gains[RL]
        ways["a"].append("x")
        ways["b"].clear()
        ways["c"] = ["u"]
        self.assertEqual(game, meet())
        self.exact(game.shape(), {"a": ["l", "r"], "b": ["l", "r"]})
        self.exact(game.gains(RR), (1, 1))


class Asking(Checks):
    def test_what_is_returned_is_new(self):
        game = meet()
        for ask in (game.choosers, game.standings, lambda: game.ways("a"), lambda: game.changes(LL)):
            before = repr(ask())
            ask().append("x")
            ask().clear()
            self.exact(repr(ask()), before)
        game.shape()["a"].append("x")
        game.shape()["c"] = []
        list(game).clear()
        self.exact(game.shape(), {"a": ["l", "r"], "b": ["l", "r"]})
        self.assertEqual(game, meet())

    def test_choosers_that_are_none(self):
        game = meet()
        for name in odd_values() + ["c", "ab", "A"]:
            if name != "a":
                self.assertIs(self.raised(NoChooser, game.ways, name).name, name)
                self.assertIs(self.raised(NoChooser, game.gain, name, LL).name, name)
                self.assertIs(self.raised(NoChooser, game.gain, name, None).name, name)
                self.assertIs(self.raised(NoChooser, game.with_extra, name, ("l",), 1).name, name)
                self.assertIs(self.raised(NoChooser, game.with_extra, name, None, 1).name, name)
        self.assertEqual(game, meet())

    def test_standings_that_are_none(self):
        game = meet()
        for thing in odd_values() + [["l", "l"], ("l",), ("l", "x")]:
            calls = [(game.gain, "a", thing), (game.gains, thing), (game.changes, thing), (game.goal, thing, ("a", "r")),
                     (game.goal, thing, None), (game.own, thing, ("a", "r")), (game.own, thing, []),
                     (game.with_gains, thing, (1, 1)), (game.with_gains, thing, None)]
            for call in calls:
                self.assertIs(self.raised(NoStanding, *call).standing, thing)
        self.assertEqual(game, meet())

    def test_changes_that_are_none(self):
        game = meet()
        for thing in odd_values() + [("a", "l"), ["a", "l"], ("b", "l"), ("a", "r", "r"), ("c", "l"), ("a", "x"), ("a", 1),
                                     "ar", {"a": "r"}, {"a", "r"}, ("a", ["r"]), ({}, "r"), (meet(), "r"), ("a", meet())]:
            for call in (game.goal, game.own):
                self.assertIs(self.raised(NoChange, call, LL, thing).change, thing)

    def test_changes_goals_and_own_gains(self):
        draw = drawing(2)
        for sizes in SOME_SIZES:
            game = any_game(draw, sizes, GREAT)
            for standing in game:
                wanted = [(chooser, way) for at, chooser in enumerate(CHOOSERS[:len(sizes)])
                          for way in shape_of(sizes)[chooser] if way != standing[at]]
                self.exact(game.changes(standing), wanted)
                for change in wanted:
                    goal = doing(standing, change)
                    at = CHOOSERS.index(change[0])
                    own = game.gains(goal)[at] - game.gains(standing)[at]
                    for same in (change, list(change)):
                        self.exact(game.goal(standing, same), goal)
                        self.exact(game.own(standing, same), own)

    def test_a_change_list_stays_as_it_was(self):
        change = ["a", "r"]
        self.exact(self.unchanged(meet().goal, LL, change), RL)
        self.exact(self.unchanged(meet().own, LL, change), -2)
        self.assertEqual(change, ["a", "r"])

    def test_way_of_another_chooser(self):
        game = Game({"a": ["l", "r"], "b": ["u"]}, {("l", "u"): (0, 0), ("r", "u"): (5, 7)})
        self.raised(NoChange, game.goal, ("l", "u"), ("a", "u"))
        self.raised(NoChange, game.goal, ("l", "u"), ("b", "l"))
        self.raised(NoChange, game.goal, ("l", "u"), ("b", "u"))
        self.exact(game.changes(("l", "u")), [("a", "r")])
        self.exact(game.own(("l", "u"), ("a", "r")), 5)

    def test_in(self):
        game = meet()
        for thing in odd_values():
            self.assertIs(thing in game, False)
        for standing in (LL, LR, RL, RR):
            self.assertIs(standing in game, True)
            self.assertIs(list(standing) in game, False)
        self.assertIs(("u",) in lone(), True)
        self.assertIs("u" in lone(), False)

    def test_iterating_twice_at_once(self):
        game = meet()
        self.assertEqual(list(itertools.product(game, game)), list(itertools.product(game.standings(), game.standings())))


class OtherGames(Checks):
    def test_with_gains(self):
        game = meet()
        for gains in ([5, -5], (5, -5), (GREAT, -GREAT)):
            other = self.unchanged(game.with_gains, LR, gains)
            self.exact(other.gains(LR), tuple(gains))
            self.exact([other.gains(standing) for standing in (LL, RL, RR)], [(2, 2), (0, 0), (1, 1)])
            self.exact(other.shape(), game.shape())
        self.assertEqual(game, meet())
        gains = [5, 5]
        other = game.with_gains(LR, gains)
        gains[0] = 6
        self.exact(other.gains(LR), (5, 5))

    def test_with_gains_that_are_none(self):
        game = meet()
        for gains in odd_values() + [(1,), (1, 2, 3), (True, 1), (1, False), "12", {1: 1, 2: 2}, {1, 2}, ("1", "2"), [1, [2]]]:
            self.wrong_at(1, game.with_gains, LL, gains)
        self.assertEqual(game, meet())
        self.assertIs(self.raised(NoStanding, game.with_gains, "ll", "gains").standing, "ll")

    def test_plus(self):
        draw = drawing(3)
        for sizes in SOME_SIZES:
            one, other = any_game(draw, sizes, GREAT), any_game(draw, sizes)
            total = self.unchanged(one.plus, other)
            self.exact(total.shape(), one.shape())
            for standing in one:
                self.exact(total.gains(standing), tuple(map(sum, zip(one.gains(standing), other.gains(standing)))))
        game = meet()
        self.assertEqual(game.plus(game), game.times(2))
        self.assertEqual(game, meet())

    def test_plus_of_another_shape(self):
        game = meet()
        renamed = Game({"a": ["l", "r"], "c": ["l", "r"]}, plain_gains())
        other_way = Game({"a": ["l", "r"], "b": ["l", "s"]}, {LL: (0, 0), ("l", "s"): (0, 0), RL: (0, 0), ("r", "s"): (0, 0)})
        for other in (lone(), renamed, other_way, game.kept({"a": ["l"]}), any_game(drawing(4), (2, 2))):
            self.raised(Unlike, game.plus, other)
            self.raised(Unlike, other.plus, game)
        self.assertEqual(game, meet())

    def test_times(self):
        draw = drawing(5)
        for sizes in SOME_SIZES:
            game = any_game(draw, sizes, GREAT)
            for number in (0, 1, -1, 3, GREAT):
                found = game.times(number)
                self.exact(found.shape(), game.shape())
                for standing in game:
                    self.exact(found.gains(standing), tuple(gain * number for gain in game.gains(standing)))
        self.exact(meet().times(-2).gains(LL), (-4, -4))

    def test_with_extra(self):
        draw = drawing(6)
        for sizes in SOME_SIZES:
            game = any_game(draw, sizes)
            for at, chooser in enumerate(game.choosers()):
                base = draw.choice(game.standings())
                others = base[:at] + base[at + 1:]
                found = self.unchanged(game.with_extra, chooser, others, -GREAT)
                for standing in game:
                    gains = list(game.gains(standing))
                    if standing[:at] + standing[at + 1:] == others:
                        gains[at] -= GREAT
                    self.exact(found.gains(standing), tuple(gains))
                    for change in game.changes(standing):
                        self.exact(found.own(standing, change), game.own(standing, change))
                self.assertEqual(found.with_extra(chooser, others, GREAT), game)

    def test_lines_that_are_none(self):
        game = meet()
        for others in odd_values() + [["l"], "l", ("x",), ("l", "l"), (), ("l", "l", "l"), (("l",),), (["l"],), {"l"}]:
            if others != ("l",):
                error = self.raised(NoLine, game.with_extra, "a", others, 1)
                self.exact(error.line.__class__, tuple)
                self.assertEqual(len(error.line), 2)
                self.assertEqual(error.line[0], "a")
                self.assertIs(error.line[1], others)
        self.assertEqual(game, meet())
        self.exact(lone().with_extra("c", (), 4).gains(("v",)), (5,))
        self.raised(NoLine, lone().with_extra, "c", ("u",), 4)
        three = any_game(drawing(7), (2, 2, 2))
        self.raised(NoLine, three.with_extra, "bob", ("aeast",), 1)
        self.raised(NoLine, three.with_extra, "bob", ("aeast", "ceast", "ceast"), 1)
        self.raised(NoLine, three.with_extra, "bob", ("ceast", "aeast"), 1)

    def test_kept(self):
        draw = drawing(8)
        for sizes in SOME_SIZES:
            game = any_game(draw, sizes)
            self.assertEqual(game.kept({}), game)
            self.assertEqual(game.kept(game.shape()), game)
            for _ in range(5):
                ways = {}
                for chooser in draw.sample(game.choosers(), draw.randint(0, len(sizes))):
                    some = draw.sample(game.ways(chooser), draw.randint(1, len(game.ways(chooser))))
                    ways[chooser] = draw.choice((list, tuple))(some)
                fewer = self.unchanged(game.kept, ways)
                shape = {chooser: sorted(ways.get(chooser, game.ways(chooser))) for chooser in game.choosers()}
                self.exact(fewer.shape(), shape)
                self.exact(fewer.standings(), standings_of(shape))
                for standing in fewer:
                    self.exact(fewer.gains(standing), game.gains(standing))

    def test_kept_ways_that_are_wrong(self):
        game = meet()
        bad = [{"a": []}, {"a": ()}, {"a": ["l", "l"]}, {"a": ["l", "x"]}, {"c": ["l"]}, {"a": "l"}, {"a": "lr"}, {"a": {"l"}},
               {"a": {"l": "l"}}, {"a": None}, {"a": [1]}, {"a": [["l"]]}, {"a": [{}]}, {"a": ["l"], "c": ["l"]}, {1: ["l"]},
               {("a",): ["l"]}, {"a": ["l"], "b": []}, {"a": ["l", "r", "l"]}, [("a", ["l"])], ["a"], {"a": [meet()]}]
        for ways in odd_values() + bad:
            if ways != {} or not isinstance(ways, dict):
                self.wrong_at(0, game.kept, ways)
        self.assertEqual(game, meet())

    def test_kept_is_copied(self):
        game, ways = meet(), {"a": ["r"]}
        fewer = game.kept(ways)
        ways["a"].append("l")
        self.exact(fewer.shape(), {"a": ["r"], "b": ["l", "r"]})
        fewer.shape()["b"].clear()
        self.exact(game.shape(), {"a": ["l", "r"], "b": ["l", "r"]})


class Comparing(Checks):
    def test_equal(self):
        draw = drawing(9)
        for sizes in SOME_SIZES:
            game = any_game(draw, sizes)
            again = Game({chooser: tuple(reversed(game.ways(chooser))) for chooser in reversed(game.choosers())},
                         {standing: list(game.gains(standing)) for standing in reversed(game.standings())})
            self.assertIs(game == again, True)
            self.assertIs(game != again, False)
            for standing in game:
                gains = list(game.gains(standing))
                gains[-1] += 1
                self.assertIs(game == game.with_gains(standing, gains), False)
                self.assertIs(game != game.with_gains(standing, gains), True)

    def test_unequal_shapes(self):
        game = Game({"a": ["l"]}, {("l",): (0,)})
        for other in (Game({"b": ["l"]}, {("l",): (0,)}), Game({"a": ["r"]}, {("r",): (0,)}),
                      Game({"a": ["l", "r"]}, {("l",): (0,), ("r",): (0,)}), meet(), flee()):
            self.assertIs(game == other, False)
            self.assertIs(game != other, True)

    def test_values_of_other_kinds(self):
        for thing in odd_values() + [meet().shape(), meet().standings()]:
            if not isinstance(thing, Game):
                self.assertIs(meet() == thing, False)
                self.assertIs(thing == meet(), False)
                self.assertIs(meet() != thing, True)
                self.assertIs(thing != meet(), True)
        self.assertIs(one_tie().game() == meet(), True)
        self.assertIs(one_tie() == meet(), False)
        self.assertIs(two_roads() == two_roads().game(), False)


if __name__ == "__main__":
    unittest.main()
