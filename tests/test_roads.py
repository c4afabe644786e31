"""Points 40 and 6: games told by roads that are shared."""

import unittest

from heightgames.errors import NoChooser, NoRoad, NoStanding, NoWay, Wrong
from heightgames.heights import height, is_height
from heightgames.roads import Roads
from tests.samples import (
    CHOOSERS, GREAT, SIZES, SOME_SIZES, Checks, drawing, meet, odd_values, one_tie, shape_of, standings_of, two_roads,
)

NAMES = ["hill", "lane", "mill", "path", "quay", "ring", "street"]
USES = {"a": {"h": ["x"], "l": ["y"]}, "b": {"h": ["x"], "l": ["y"]}}
COSTS = {"x": [1, 3], "y": [2, 2]}


def any_uses(draw, sizes):
    shape = shape_of(sizes)
    return {chooser: {way: draw.sample(NAMES[:5], draw.randint(0, 4)) for way in shape[chooser]} for chooser in shape}


def any_costs(draw, many, bound=9):
    """Costs for all names, two of which no way uses."""
    return {name: [draw.randint(-bound, bound) for _ in range(many)] for name in NAMES}


def any_roads(draw, sizes, bound=9):
    return Roads(any_uses(draw, sizes), any_costs(draw, len(sizes), bound))


def load(uses, standing, road):
    return sum(road in uses[chooser][way] for chooser, way in zip(sorted(uses), standing))


class Telling(Checks):
    def test_all_shapes(self):
        draw = drawing(51)
        for sizes in SIZES:
            uses, costs = any_uses(draw, sizes), any_costs(draw, len(sizes), GREAT)
            roads = self.unchanged(Roads, uses, costs)
            shape = shape_of(sizes)
            self.exact(roads.roads(), sorted(NAMES))
            for name in NAMES:
                self.exact(roads.costs(name), tuple(costs[name]))
            for chooser in shape:
                for way in shape[chooser]:
                    self.exact(roads.used(chooser, way), sorted(uses[chooser][way]))
            game = roads.game()
            self.exact(game.shape(), shape)
            heights = roads.height()
            self.exact(list(heights), standings_of(shape))
            for standing in standings_of(shape):
                loads = {name: load(uses, standing, name) for name in sorted(NAMES)}
                self.exact(roads.loads(standing), loads)
                gains = tuple(-sum(costs[road][loads[road] - 1] for road in uses[chooser][way])
                              for chooser, way in zip(sorted(uses), standing))
                self.exact(game.gains(standing), gains)
                self.exact(roads.cost(standing), -sum(gains))
                self.exact(heights[standing], -sum(sum(costs[name][:loads[name]]) for name in NAMES))
            self.assertIs(is_height(game, heights), True)
            low = heights[min(heights)]
            self.exact(height(game), {standing: heights[standing] - low for standing in heights})

    def test_order_and_kind_of_what_is_given(self):
        roads = Roads({"b": {"l": ("y",), "h": ("z", "x")}, "a": {"l": ["y"], "h": ["x"]}},
                      {"z": (5, 0), "y": [2, 2], "x": (1, 3)})
        self.exact(roads.roads(), ["x", "y", "z"])
        self.exact(roads.used("b", "h"), ["x", "z"])
        self.exact(roads.loads(("h", "h")), {"x": 2, "y": 0, "z": 1})
        self.exact(roads.height(), {("h", "h"): -9, ("h", "l"): -3, ("l", "h"): -8, ("l", "l"): -4})
        self.exact(roads.game().choosers(), ["a", "b"])
        self.exact(roads.game().gains(("l", "h")), (-2, -6))
        self.exact(roads.game().gains(("h", "l")), (-1, -2))
        self.exact(roads.costs("z"), (5, 0))

    def test_no_roads(self):
        roads = Roads({"a": {"l": [], "r": ()}}, {})
        self.exact(roads.roads(), [])
        self.exact(roads.used("a", "r"), [])
        self.exact(roads.loads(("l",)), {})
        self.exact(roads.cost(("l",)), 0)
        self.exact(roads.height(), {("l",): 0, ("r",): 0})
        self.exact(roads.game().gains(("r",)), (0,))
        self.assertIs(roads.is_linear(), True)
        self.raised(NoRoad, roads.costs, "x")

    def test_roads_that_nobody_uses(self):
        roads = Roads({"a": {"l": ["x"]}}, {"x": [-3], "far": [9]})
        self.exact(roads.roads(), ["far", "x"])
        self.exact(roads.loads(("l",)), {"far": 0, "x": 1})
        self.exact(roads.height(), {("l",): 3})
        self.exact(roads.cost(("l",)), -3)
        self.exact(roads.with_costs("far", (4,)).costs("far"), (4,))
        self.assertEqual(roads.with_costs("far", (4,)).game(), roads.game())
        self.assertNotEqual(roads.with_costs("far", (4,)), roads)

    def test_many_roads(self):
        names = ["".join(letters) for letters in zip("abcdefghijklmnopqrstuvwxyz" * 10, "abcdefghij" * 26, "x" * 260)]
        names = sorted(set(names))
        roads = Roads({"a": {"l": names, "r": names[1:]}}, {name: [1] for name in names})
        self.exact(roads.game().gains(("l",)), (-len(names),))
        self.exact(roads.cost(("r",)), len(names) - 1)

    def test_is_linear(self):
        uses = {chooser: {"l": ["x"]} for chooser in ("a", "b", "c", "d")}
        for costs, wanted in (([1, 2, 3, 4], True), ([4, 1, -2, -5], True), ([5, 5, 5, 5], True), ([1, 2, 3, 5], False),
                              ([0, 2, 3, 4], False), ([1, 2, 4, 5], False), ([1, 2, 4, 7], False), ([0, 0, 0, 1], False),
                              ([GREAT, 0, -GREAT, -2 * GREAT], True), ([GREAT, 0, -GREAT, 1 - 2 * GREAT], False)):
            self.assertIs(Roads(uses, {"x": costs}).is_linear(), wanted)
            self.assertIs(Roads(uses, {"x": [1, 2, 3, 4], "y": costs, "z": [7, 7, 7, 7]}).is_linear(), wanted)
            three = {chooser: uses[chooser] for chooser in ("a", "b", "c")}
            self.assertIs(Roads(three, {"x": costs[1:]}).is_linear(), costs[3] - costs[2] == costs[2] - costs[1])
        self.assertIs(Roads({"a": {"l": ["x"]}, "b": {"l": []}}, {"x": [1, 9], "y": [9, -1]}).is_linear(), True)
        self.assertIs(Roads({"a": {"l": ["x"]}}, {"x": [1]}).is_linear(), True)


class Wrongs(Checks):
    def test_wrong_uses(self):
        wide = {chooser: {way: [] for way in ways} for chooser, ways in shape_of((4, 4, 3, 2)).items()}
        bad = [{}, {"a": {}}, {"a": ["l"]}, {"a": {"l": "x"}}, {"a": {"l": {"x"}}}, {"a": {"l": {"x": 1}}}, {"a": {"l": None}},
               {"a": {"l": ["x", "x"]}}, {"a": {"l": ["x", "y", "x"]}}, {"a": {"l": ["X"]}}, {"a": {"l": [1]}},
               {"a": {"l": [["x"]]}}, {"a": {"l": [{}]}}, {"a": {"l": [None, "x"]}}, {"a": {"L": ["x"]}}, {"A": {"l": ["x"]}},
               {"a": {1: ["x"]}}, {1: {"l": ["x"]}}, {("a",): {"l": ["x"]}}, {"a": {("l",): ["x"]}}, {"a": {"l": ["abcdefghi"]}},
               {"a": {"l": [""]}}, {name: {"l": []} for name in "abcde"}, {"a": {name: [] for name in "lmnop"}}, wide,
               {"a": {"l": ["x"]}, "b": {}}, {"a": {"l": ["x"]}, "b": None}, {"a": {"l": ["x"]}, "b": {"l": "x"}},
               {"a": {"l": [meet()]}}, {"a": meet()}, {"a": {"l": meet()}}, {frozenset("a"): {"l": []}}, {"a": {frozenset(): []}},
               [("a", {"l": ["x"]})]]
        for uses in odd_values() + bad:
            for costs in ({"x": [1]}, {}, None):
                self.wrong_at(0, Roads, uses, costs)

    def test_81_standings(self):
        full = {chooser: {way: [] for way in ways} for chooser, ways in shape_of((3, 3, 3, 3)).items()}
        self.assertEqual(len(Roads(full, {}).game()), 81)

    def test_wrong_costs(self):
        bad = [{"x": [1, 3]}, {"y": [1, 3]}, {"x": [1, 3], "y": [2]}, {"x": [1, 3], "y": [2, 2, 2]}, {"x": [1, 3], "y": [2, True]},
               {"x": [1, 3], "y": "22"}, {"x": [1, 3], "y": {1: 1, 2: 2}}, {"x": [1, 3], "y": None}, {"x": [1, 3], "y": {1, 2}},
               {**COSTS, "z": [1]}, {**COSTS, "z": "12"}, {**COSTS, "Z": [1, 2]}, {**COSTS, 1: [1, 2]}, {**COSTS, ("x",): [1, 2]},
               {**COSTS, "abcdefghi": [1, 2]}, {**COSTS, None: [1, 2]}, {**COSTS, "": [1, 2]}, {**COSTS, "z": [1, None]},
               {**COSTS, "x": [[1], 3]}, {**COSTS, "x": ["1", "3"]}, [("x", [1, 3]), ("y", [2, 2])], {**COSTS, "z": meet()}]
        for costs in odd_values() + bad:
            self.wrong_at(1, Roads, USES, costs)
        for value in odd_values():
            self.wrong_at(1, Roads, USES, {**COSTS, "x": value})
            self.wrong_at(1, Roads, USES, {**COSTS, "other": value})

    def test_choosers_ways_and_roads_that_are_none(self):
        roads = two_roads()
        for name in odd_values() + ["c", "h", "x"]:
            if name not in ["a", "b"]:
                self.assertIs(self.raised(NoChooser, roads.used, name, "h").name, name)
                self.assertIs(self.raised(NoChooser, roads.used, name, name).name, name)
            if name not in ["h", "l"]:
                self.assertIs(self.raised(NoWay, roads.used, "a", name).name, name)
            if name not in ["x", "y"]:
                self.assertIs(self.raised(NoRoad, roads.costs, name).name, name)
                self.assertIs(self.raised(NoRoad, roads.with_costs, name, [1, 2]).name, name)
                self.assertIs(self.raised(NoRoad, roads.with_costs, name, name).name, name)
        self.raised(NoWay, Roads({"a": {"l": []}, "b": {"r": []}}, {}).used, "a", "r")
        self.assertEqual(roads, two_roads())

    def test_standings_that_are_none(self):
        roads = two_roads()
        for standing in odd_values() + [["h", "h"], ("h",), ("h", "x"), ("h", "h", "h"), "hh"]:
            for call in (roads.loads, roads.cost):
                self.assertIs(self.raised(NoStanding, call, standing).standing, standing)

    def test_costs_that_are_wrong(self):
        roads = two_roads()
        for costs in odd_values() + [(1,), (1, 2, 3), (1, True), "12", {1: 1, 2: 2}, {1, 2}, ["1", "2"], range(2)]:
            self.wrong_at(1, roads.with_costs, "x", costs)
        self.assertEqual(roads, two_roads())


class OtherRoads(Checks):
    def test_with_costs(self):
        draw = drawing(52)
        for sizes in SOME_SIZES:
            uses, costs = any_uses(draw, sizes), any_costs(draw, len(sizes))
            roads = Roads(uses, costs)
            for road in NAMES:
                new = [draw.randint(-GREAT, GREAT) for _ in sizes]
                for same in (new, tuple(new)):
                    found = self.unchanged(roads.with_costs, road, same)
                    self.assertEqual(found, Roads(uses, {**costs, road: new}))
                    self.exact(found.costs(road), tuple(new))
            self.assertEqual(roads, Roads(uses, costs))
        new = [5, 6]
        found = two_roads().with_costs("x", new)
        new[0] = 7
        self.exact(found.costs("x"), (5, 6))
        self.exact(found.roads(), ["x", "y"])

    def test_what_is_handed_in_is_copied(self):
        uses = {"a": {"h": ["x"], "l": ["y"]}, "b": {"h": ["x"], "l": ["y"]}}
        costs = {"y": [2, 2], "x": [1, 3]}
        before = repr((uses, costs))
        roads = Roads(uses, costs)
        self.assertEqual(repr((uses, costs)), before)
        uses["a"]["h"].append("y")
        uses["a"]["m"] = []
        uses["c"] = {"l": []}
        costs["x"][0] = 9
        costs["z"] = [0, 0]
        self.assertEqual(roads, two_roads())
        self.exact(roads.roads(), ["x", "y"])
        self.exact(roads.used("a", "h"), ["x"])
        self.exact(roads.costs("x"), (1, 3))

    def test_what_is_returned_is_new(self):
        roads = two_roads()
        for ask in (roads.roads, lambda: roads.used("a", "h"), lambda: roads.loads(("h", "l")), roads.height):
            before = repr(ask())
            ask().clear()
            self.assertEqual(repr(ask()), before)
        self.assertEqual(roads.game(), roads.game())
        self.assertEqual(roads, two_roads())

    def test_equal(self):
        draw = drawing(53)
        for sizes in SOME_SIZES:
            uses, costs = any_uses(draw, sizes), any_costs(draw, len(sizes))
            roads = Roads(uses, costs)
            turned = {chooser: {way: tuple(reversed(uses[chooser][way])) for way in reversed(uses[chooser])}
                      for chooser in reversed(uses)}
            same = Roads(turned, {name: tuple(costs[name]) for name in reversed(costs)})
            self.assertIs(roads == same, True)
            self.assertIs(roads != same, False)
            for name in NAMES:
                other = roads.with_costs(name, costs[name][:-1] + [costs[name][-1] + 1])
                self.assertIs(roads == other, False)
                self.assertIs(roads != other, True)
            self.assertIs(roads == Roads(uses, {**costs, "more": [0] * len(sizes)}), False)
            chooser = CHOOSERS[len(sizes) - 1]
            way = draw.choice(list(uses[chooser]))
            more = {**uses, chooser: {**uses[chooser], way: uses[chooser][way] + [NAMES[6]]}}
            self.assertIs(roads == Roads(more, costs), False)

    def test_equal_to_nothing_else(self):
        roads = two_roads()
        self.assertIs(roads == Roads(USES, COSTS), True)
        for thing in odd_values() + [USES, COSTS, roads.game(), one_tie(), Wrong(0)]:
            if not isinstance(thing, Roads):
                self.assertIs(roads == thing, False)
                self.assertIs(roads != thing, True)
                self.assertIs(thing == roads, False)
        renamed = Roads({"a": USES["a"], "c": USES["b"]}, COSTS)
        self.assertIs(roads == renamed, False)
        self.assertIs(roads == any_roads(drawing(54), (2, 2)), False)


if __name__ == "__main__":
    unittest.main()
