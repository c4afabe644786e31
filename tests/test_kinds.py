"""Point 21: what values are by their form."""

import unittest

from heightgames.kinds import is_change, is_integer, is_name, is_row, is_shape
from tests.samples import GREAT, SIZES, Checks, meet, odd_values, one_tie, shape_of, two_roads


class Kinds(Checks):
    def each(self, call, yes, no):
        for thing in yes:
            self.assertIs(call(thing), True, repr(thing)[:99])
        for thing in no:
            self.assertIs(call(thing), False, repr(thing)[:99])

    def test_integers(self):
        no = [True, False, None, "1", b"1", [], [1], (1,), {}, {1: 1}, meet(), two_roads(), one_tie()]
        self.each(is_integer, [0, 1, -1, 2, GREAT, -GREAT, 10 ** 4000], no)

    def test_names(self):
        yes = ["a", "z", "m", "ab", "abcdefgh", "zzzzzzzz"]
        no = ["", "abcdefghi", "a" * 10000, "A", "aB", "Ab", "a\n", "\na", "a\nb", "\n", " ", "a ", "a b", "a1", "1", "a.b",
              "a,b", "`", "{", "a{", "a`", "~", "\u00e4", "a\u0131", "\u0430", b"a", ["a"], ("a",), {"a": "a"}, {"a"},
              None, True, 0, meet()]
        self.each(is_name, yes, no)

    def test_shapes(self):
        names = ["a", "b", "c", "d", "e"]
        yes = [shape_of(sizes) for sizes in SIZES]
        yes += [{"a": ["l"]}, {"a": ("l",)}, {"b": ["z", "a"], "a": ("y", "x", "a", "l")}, {"a": ["a"], "b": ["a"]},
                {"abcdefgh": ["abcdefgh"]}, {name: ["l", "m", "r"] for name in names[:4]}]
        no = [{}, {name: ["l"] for name in names}, {"a": []}, {"a": ()}, {"a": ["l", "l"]}, {"a": ("l", "m", "l")},
              {"a": names}, {"a": "lr"}, {"a": "l"}, {"a": {"l", "r"}}, {"a": {"l": 1}}, {"a": None}, {"a": 1},
              {"a": [1]}, {"a": [None]}, {"a": [["l"]]}, {"a": [{}, {}]}, {"a": [("l",)]}, {"a": ["L"]}, {"a": [""]},
              {"a": ["abcdefghi"]}, {"a": ["l\n"]}, {"abcdefghi": ["l"]}, {"A": ["l"]}, {"": ["l"]}, {"a\n": ["l"]},
              {1: ["l"]}, {None: ["l"]}, {True: ["l"]}, {("a",): ["l"]}, {b"a": ["l"]}, {"a": [b"l"]},
              {"a": ["l"], 1: ["l"]}, {"a": ["l"], "b": []}, {"a": ["l"], "b": ["l", "l"]},
              [("a", ["l"])], ["a"], ("a", "l"), "a", None, 1, True, [], meet(), two_roads(), one_tie(), {"a": meet()}]
        self.each(is_shape, yes, no)

    def test_shapes_of_too_many_standings(self):
        self.each(is_shape, [shape_of((3, 3, 3, 3)), shape_of((4, 4, 4, 1)), shape_of((4, 4, 4))],
                  [shape_of((4, 4, 3, 2)), shape_of((3, 3, 3, 4)), shape_of((4, 4, 2, 3)), shape_of((4, 4, 4, 4))])

    def test_changes(self):
        yes = [("a", "l"), ["a", "l"], ("l", "l"), ("abcdefgh", "z")]
        no = [("a",), ["a"], (), [], ("a", "l", "r"), "al", {"a", "l"}, {"a": "l"}, {"a": 1, "l": 1}, ("a", 1), (1, "a"),
              ("a", None), ("a", ["l"]), (["a"], "l"), ("a", {}), ({}, "a"), ("a", ""), ("A", "l"), ("a", "l\n"),
              ("abcdefghi", "l"), ("a", "abcdefghi"), ("a", b"l"), (meet(), "l"), None, 0, True, meet(), one_tie()]
        self.each(is_change, yes, no)

    def test_rows(self):
        change = ("a", "r")
        yes = [(("l",), []), [["l"], ()], (["l", "l"], [change]), [("l", "x", "y", "z"), (change, ["q", "q"])],
               (("l",), [change] * 200), [["l"], tuple([["a", "r"]] * 200)]]
        no = [(), [], ((), []), (("l",) * 5, []), (("l",), [change] * 201), (("l",), [change] * 2000),
              (("l",), None), (("l",), "a"), (("l",), ""), (("l",), {}), (("l",), {change: 1}), (("l",), change),
              (("l",), [change, ("a",)]), (("l",), [change, None]), (("l",), [[]]), (("l",), [("a", "l", "r")]),
              (("l",), [("a", 1)]), (("L",), []), ((1,), []), ((None,), []), (([],), []), (("",), []),
              (("abcdefghi",), []), ("l", []), ({"l": 1}, []), ({"l"}, []), (None, []), (1, []), (("l",),),
              (("l",), [], []), {("l",): []}, {0: ("l",), 1: []}, "ab", None, 1, meet(), (meet(), []), (("l",), meet())]
        self.each(is_row, yes, no)

    def test_any_value_gets_a_truth(self):
        for thing in odd_values():
            for call in (is_integer, is_name, is_shape, is_change, is_row):
                self.assertIn(call(thing), (True, False))
                self.assertIs(call(thing).__class__, bool)

    def test_nothing_is_changed(self):
        for call, thing in ((is_shape, {"b": ["r", "l"], "a": ("x",)}), (is_row, [["l"], [["a", "b"]]])):
            before = repr(thing)
            call(thing)
            self.assertEqual(repr(thing), before)


if __name__ == "__main__":
    unittest.main()
