"""The examples of the document, as they stand there.

>>> from heightgames.games import Game
>>> from heightgames.rows import is_ring, led, row_sum
>>> plain = {"a": ["l", "r"], "b": ["l", "r"]}
>>> meet = Game(plain, {("l", "l"): (2, 2), ("l", "r"): (0, 0), ("r", "l"): (0, 0), ("r", "r"): (1, 1)})
>>> [len(meet), meet.gains(("r", "r")), meet.changes(("l", "r")), meet.own(("l", "r"), ("a", "r"))]
[4, (1, 1), [('a', 'r'), ('b', 'l')], 1]
>>> flee = Game(plain, {("l", "l"): (1, 0), ("l", "r"): (0, 1), ("r", "l"): (0, 1), ("r", "r"): (1, 0)})
>>> round_all = (("l", "l"), [("b", "r"), ("a", "r"), ("b", "l"), ("a", "l")])
>>> [led(flee, (("l", "l"), [("b", "r")])), is_ring(flee, round_all), row_sum(flee, round_all), row_sum(meet, round_all)]
[('l', 'r'), True, 4, 0]

>>> from heightgames.fillings import account, filled, is_filling
>>> from heightgames.heights import height, split, tops
>>> from heightgames.squares import bad_square, sums
>>> [height(meet), tops(meet), bad_square(meet), height(flee)]
[{('l', 'l'): 0, ('l', 'r'): -2, ('r', 'l'): -2, ('r', 'r'): -1}, [('l', 'l')], None, None]
>>> [bad_square(flee), sums(flee, bad_square(flee)), is_filling(flee, round_all, [(bad_square(flee), -1)])]
[(('l', 'l'), 'a', 'b', 'r', 'r'), (-2, -2), True]
>>> is_filling(flee, round_all, filled(flee, round_all))
True
>>> [split(meet)[1][("a", ("l",))], account(meet, (("l", "l"), [("a", "r")]))]
[2, {('a', ('l', 'l')): -1, ('a', ('r', 'l')): 1}]

>>> from heightgames.roads import Roads
>>> from heightgames.ties import Ties
>>> two = Roads({"a": {"h": ["x"], "l": ["y"]}, "b": {"h": ["x"], "l": ["y"]}}, {"x": [1, 3], "y": [2, 2]})
>>> [two.loads(("h", "h")), two.game().gains(("h", "h")), two.height()[("h", "h")], two.height()[("h", "l")], two.cost(("h", "l"))]
[{'x': 2, 'y': 0}, (-3, -3), -4, -3, 3]
>>> from heightgames.told import as_roads
>>> as_roads(meet).game() == meet
True

>>> from heightgames.signs import sign_height, weak_ring
>>> from heightgames.weights import against_weights, weighted_height, weights
>>> lean = Game(plain, {("l", "l"): (2, 6), ("l", "r"): (0, 0), ("r", "l"): (0, 0), ("r", "r"): (1, 3)})
>>> [weights(lean), weighted_height(lean)[("r", "r")], height(lean), against_weights(flee) == [bad_square(flee)]]
[{'a': 3, 'b': 1}, -3, None, True]
>>> [sign_height(meet), len(weak_ring(flee)[1]), weak_ring(lean)]
[{('l', 'l'): 1, ('l', 'r'): 0, ('r', 'l'): 0, ('r', 'r'): 1}, 4, None]

>>> from heightgames.betterings import bettering_ring, betterings, rests
>>> from heightgames.climbs import climb, ends, lengths, longest
>>> [betterings(meet, ("l", "r")), betterings(meet, ("l", "r"), best=True), rests(meet), rests(flee)]
[[('a', 'r'), ('b', 'l')], [('a', 'r'), ('b', 'l')], [('l', 'l'), ('r', 'r')], []]
>>> [climb(meet) == sign_height(meet), climb(flee), ends(meet, ("l", "r")), lengths(meet)[("r", "l")], longest(flee, ("l", "l"))]
[True, None, [('l', 'l'), ('r', 'r')], 1, None]
>>> from heightgames.rounds import resting_order, rounds
>>> [rounds(meet, ("l", "r"), ["a", "b"]), rounds(meet, ("l", "r"), ["b", "a"]), resting_order(flee)]
[('rests', [('l', 'r'), ('r', 'r')]), ('rests', [('l', 'r'), ('l', 'l')]), None]
>>> rounds(flee, ("l", "r"), ["a", "b"])
('turns', [('l', 'r'), ('r', 'l'), ('l', 'r')])

>>> from heightgames.ends import ending_game, fate, possible_ring, settling, sure_climb
>>> from heightgames.facts import Facts, facts_of, is_possible, sure_rests
>>> facts = facts_of(meet, [("a", ("l",)), ("a", ("r",)), ("b", ("l",))])
>>> [facts.told()[("a", ("l",))], facts.untold(), is_possible(facts, ("r", "r"), ("b", "l")), sure_rests(facts)]
[(('r',), ('l',)), [('b', ('r',))], True, [('l', 'l')]]
>>> [fate(facts), sure_climb(facts), fate(Facts(plain)), settling(Facts(plain))]
['ends', {('l', 'l'): 2, ('l', 'r'): 0, ('r', 'l'): 1, ('r', 'r'): 1}, 'open', []]

>>> from heightgames.far import calm, far, near_height
>>> from heightgames.tolls import lone_tolls, paid, rest_tolls
>>> from heightgames.worth import best_sum, dearness, rest_sums
>>> lone = Game({"c": ["u", "v"]}, {("u",): (0,), ("v",): (1,)})
>>> [far(meet), far(flee), calm(meet), calm(flee), near_height(meet) == height(meet)]
[(0, 1), (1, 1), 0, 1, True]
>>> [rest_tolls(flee, ("l", "l")), lone_tolls(lone, ("u",)), paid(flee, ("l", "l"))]
[{'a': {'l': 0, 'r': 0}, 'b': {'l': 0, 'r': 1}}, {'c': {'u': 0, 'v': 2}}, 2]
>>> [best_sum(meet), rest_sums(meet), rest_sums(flee), dearness(two)]
[(4, ('l', 'l')), ((2, ('r', 'r')), (4, ('l', 'l'))), None, (1, 1)]

>>> from heightgames.firsts import firsts, stray
>>> from heightgames.joined import beside, sides
>>> from heightgames.parts import lots, struck, worse
>>> [lots(beside(meet, lone)), worse(lone), len(struck(lone)[0]), sides(meet, lone, ("l", "r", "u"))]
[[['a', 'b'], ['c']], [('c', 'u', 'v')], 1, (('l', 'r'), ('u',))]
>>> [firsts(meet, [("l", "l")]), firsts(lone, [("v",)]), stray(meet, {}, [("l", "l"), ("r", "r")])]
[(('a', 'l'), ('b', 'l')), (), None]

>>> from heightgames.back import Seen
>>> from heightgames.desk import Desk
>>> from heightgames.teams import strong_rests, team_betterings, team_ranks
>>> [team_betterings(meet, ("r", "r")), strong_rests(meet), team_ranks(meet)[("l", "l")]]
[[('l', 'l')], [('l', 'l')], 2]
>>> seen = Seen(plain)
>>> seen.saw(("l", "r"), ("a", "r"))
>>> seen.rested(("l", "l"))
>>> [len(seen), seen.height(), seen.against()]
[2, {('l', 'l'): 0, ('l', 'r'): 0, ('r', 'l'): 0, ('r', 'r'): 1}, None]
>>> desk = Desk()
>>> [desk.execute("chooser c u v\\nat u 0\\nat v 1"), desk.execute("better"), desk.execute("go c.v"), desk.execute("rests")]
['ok', 'c.v', '1', 'v']
"""

import doctest
import sys
import unittest


class Examples(unittest.TestCase):
    def test_examples(self):
        found = doctest.testmod(sys.modules[__name__])
        self.assertGreater(found.attempted, 0)
        self.assertEqual(found.failed, 0)


if __name__ == "__main__":
    unittest.main()
