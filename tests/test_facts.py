"""Points 70, 3, 4 and 9: facts."""

import itertools
import unittest

from heightgames.errors import NoChange, NoLine, NoOrder, NoStanding, Untold, Wrong
from heightgames.facts import Facts, facts_of, is_possible, is_sure, possible_rests, sure_rests
from heightgames.games import Game
from heightgames.kinds import is_shape
from tests.reference import moves, orders_of
from tests.samples import (
    GREAT, PLAIN, SIZES, SOME_SIZES, Checks, any_game, drawing, flee, lone, meet, odd_values, one_tie, shape_of,
    standings_of, steep_game, two_roads,
)

LINE = ("a", ("l",))
ORDER = (("r",), ("l",))


def lines_of(shape):
    """All lines of a shape, ascending."""
    found = set()
    for standing in standings_of(shape):
        found.update((chooser, standing[:at] + standing[at + 1:]) for at, chooser in enumerate(sorted(shape)))
    return sorted(found)


def order_in(game, line):
    """The order of a line in a game, worst ways first."""
    chooser, others = line
    at = game.choosers().index(chooser)
    gains = {way: game.gains(others[:at] + (way,) + others[at:])[at] for way in game.ways(chooser)}
    return tuple(tuple(way for way in gains if gains[way] == gain) for gain in sorted(set(gains.values())))


def any_order(draw, ways):
    return draw.choice(orders_of(sorted(ways)))


def any_facts(draw, shape, share):
    """Facts that tell about so many of ten lines, and what they tell."""
    facts, told = Facts(shape), {}
    for line in lines_of(shape):
        if draw.randrange(10) < share:
            told[line] = any_order(draw, shape[line[0]])
            facts.tell(line, told[line])
    return facts, told


def fitting(draw, shape, told, bound=9):
    """A game in which all that is told is so, and the rest by chance."""
    gains = {standing: [draw.randint(-bound, bound) for _ in shape] for standing in standings_of(shape)}
    for (chooser, others), order in told.items():
        at = sorted(shape).index(chooser)
        numbers = set()
        while len(numbers) < len(order):
            numbers.add(draw.randint(-bound - 4, bound + 4))
        for number, ways in zip(sorted(numbers), order):
            for way in ways:
                gains[others[:at] + (way,) + others[at:]][at] = number
    return Game(shape, gains)


def rank(order, way):
    return [way in tied for tied in order].index(True)


def line_at(choosers, standing, chooser):
    at = choosers.index(chooser)
    return (chooser, standing[:at] + standing[at + 1:])


class Telling(Checks):
    def check(self, facts, shape, told):
        """Check that facts tell just this."""
        self.exact(facts.shape(), {chooser: sorted(shape[chooser]) for chooser in sorted(shape)})
        self.exact(facts.told(), {line: told[line] for line in sorted(told)})
        self.exact(facts.untold(), [line for line in lines_of(shape) if line not in told and len(shape[line[0]]) > 1])

    def test_all_shapes(self):
        draw = drawing(701)
        for sizes in SIZES:
            facts, told = any_facts(draw, shape_of(sizes), draw.choice((0, 3, 9, 10)))
            self.check(facts, shape_of(sizes), told)

    def test_told_otherwise_and_forgotten(self):
        draw = drawing(702)
        for sizes in SOME_SIZES:
            shape, told = shape_of(sizes), {}
            facts = Facts({chooser: tuple(reversed(shape[chooser])) for chooser in reversed(shape)})
            self.check(facts, shape, {})
            for _ in range(60):
                line = draw.choice(lines_of(shape))
                if draw.randrange(3) == 0:
                    if line in told:
                        del told[line]
                        self.assertIs(facts.forget(line), None)
                    else:
                        self.exact(self.raised(Untold, facts.forget, line).line, line)
                else:
                    told[line] = any_order(draw, shape[line[0]])
                    self.assertIs(facts.tell(line, told[line]), None)
            self.check(facts, shape, told)
            for line in list(told):
                facts.forget(line)
            self.check(facts, shape, {})
            self.assertEqual(facts, Facts(shape))

    def test_orders_of_all_kinds(self):
        draw = drawing(703)
        for many in (1, 2, 3, 4):
            shape = shape_of((many, 2))
            line = ("ann", ("beast",))
            for order in orders_of(shape["ann"]):
                facts = Facts(shape)
                for same in (order, list(order), [list(tied) for tied in order], tuple(list(tied) for tied in order),
                             [draw.sample(tied, len(tied)) for tied in order], tuple(tuple(reversed(tied)) for tied in order)):
                    before = repr(same)
                    facts.tell(line, same)
                    self.exact(facts.told(), {line: order})
                    self.assertEqual(repr(same), before)

    def test_one_way(self):
        facts = Facts({"b": ["m"], "a": ("r", "l")})
        self.exact(facts.untold(), [("a", ("m",))])
        facts.tell(("b", ("l",)), [["m"]])
        self.exact(facts.told(), {("b", ("l",)): (("m",),)})
        self.exact(facts.untold(), [("a", ("m",))])
        facts.forget(("b", ("l",)))
        self.exact(facts.told(), {})
        alone = Facts({"a": ["l"]})
        self.exact(alone.untold(), [])
        alone.tell(("a", ()), (("l",),))
        self.exact(alone.told(), {("a", ()): (("l",),)})

    def test_what_is_handed_in_is_copied(self):
        ways = {"b": ["r", "l"], "a": ["l", "r"]}
        facts = Facts(ways)
        order = [["r"], ["l"]]
        facts.tell(LINE, order)
        order[0].append("x")
        order.append(["l"])
        ways["a"].append("x")
        ways["c"] = ["u"]
        self.check(facts, PLAIN, {LINE: ORDER})
        order = [["r", "l"]]
        facts.tell(LINE, order)
        order[0].reverse()
        self.check(facts, PLAIN, {LINE: (("l", "r"),)})

    def test_what_is_returned_is_new(self):
        facts = facts_of(meet(), [LINE])
        for ask in (facts.shape, facts.told, facts.untold):
            self.new_each_time(ask)
        for call in (sure_rests, possible_rests):
            self.new_each_time(call, facts)


class Wrongs(Checks):
    def test_ways(self):
        bad = [{"a": ["l", "l"]}, {"a": "lr"}, {"a": []}, {"A": ["l"]}, {}, shape_of((4, 4, 3, 2)), {name: ["l"] for name in "abcde"}]
        for ways in odd_values() + bad:
            if not is_shape(ways):
                self.wrong_at(0, Facts, ways)

    def test_lines(self):
        facts = facts_of(meet(), [LINE])
        for line in odd_values() + [["a", ("l",)], ("c", ("l",)), ("a", ("x",)), ("a", ("l", "l")), ("a", ["l"]), ("a", ("l",), 1)]:
            if line != LINE:
                self.assertIs(self.raised(NoLine, facts.tell, line, ORDER).line, line)
                self.assertIs(self.raised(NoLine, facts.tell, line, ["none"]).line, line)
                self.assertIs(self.raised(NoLine, facts.forget, line).line, line)
        self.exact(facts.told(), {LINE: ORDER})
        other = ("b", ("r",))
        self.assertIs(self.raised(Untold, facts.forget, other).line, other)

    def test_orders(self):
        facts = facts_of(meet(), [LINE])
        bad = [("r", "l"), (("r",),), (("r",), ("l",), ()), (("r",), ("r",)), (("r", "r"), ("l",)), (("r",), ("l",), ("l",)), ((), ("l", "r")),
               (("r",), "l"), ("lr",), (("l", "r", "x"),), (("r",), ("x",)), (("r",), ("l", "x")), (("r",), (1,)), (("r",), ({},)),
               (("r",), (("l",),)), {("r",): 0, ("l",): 1}, {0: ("r",), 1: ("l",)}, ({"r": 1}, ("l",)), ({"r"}, {"l"}), {("r",), ("l",)},
               (("r",), ("l",), None), [["r"], ["l"], ["L"]], (("r", None), ("l",)), (("r",), ["l", []]), ("r", ("l",)), (b"r", ("l",)),
               [[["r"]], ["l"]], ((True,), (False,)), "rl", ["r", "l"], ((("r",), ("l",)),), (("r",), (meet(),)), ((meet(),), ("l",))]
        for order in odd_values() + bad:
            self.assertIs(self.raised(NoOrder, facts.tell, LINE, order).order, order)
        self.assertIs(self.raised(NoOrder, facts.tell, ("b", ("r",)), None).order, None)
        self.exact(facts.told(), {LINE: ORDER})
        self.assertEqual(facts, facts_of(meet(), [LINE]))

    def test_standings_and_changes(self):
        facts = facts_of(meet(), [LINE])
        for call in (is_sure, is_possible):
            for thing in odd_values() + [["l", "l"], ("l", "x")]:
                self.assertIs(self.raised(NoStanding, call, facts, thing, ("a", "r")).standing, thing)
                self.assertIs(self.raised(NoStanding, call, facts, thing, "no change").standing, thing)
            for thing in odd_values() + [("a", "l"), ("b", "l"), ("a", "x"), ("c", "r"), ["a", "l"], ("a", "r", "r"), "ar"]:
                self.assertIs(self.raised(NoChange, call, facts, ("l", "l"), thing).change, thing)


class Copies(Checks):
    def test_copied(self):
        draw = drawing(711)
        for sizes in SOME_SIZES:
            facts, told = any_facts(draw, shape_of(sizes), 5)
            other = facts.copied()
            self.assertIs(other.__class__, Facts)
            self.assertIs(facts == other, True)
            line = draw.choice(lines_of(shape_of(sizes)))
            ways = shape_of(sizes)[line[0]]
            order = draw.choice([order for order in orders_of(ways) if order != told.get(line)] or [told.get(line)])
            other.tell(line, order)
            self.exact(facts.told(), told)
            self.exact(other.told(), {one: {**told, line: order}[one] for one in sorted({**told, line: order})})
            for one in list(told):
                facts.forget(one)
            self.exact(other.told(), {one: {**told, line: order}[one] for one in sorted({**told, line: order})})
            self.exact(facts.told(), {})

    def test_equal(self):
        draw = drawing(712)
        for sizes in SOME_SIZES:
            shape = shape_of(sizes)
            facts, told = any_facts(draw, shape, 6)
            same = Facts({chooser: tuple(reversed(shape[chooser])) for chooser in reversed(shape)})
            for line in reversed(list(told)):
                self.assertIs(facts == same, False)
                self.assertIs(facts != same, True)
                same.tell(line, [list(reversed(tied)) for tied in told[line]])
            self.assertIs(facts == same, True)
            self.assertIs(facts != same, False)
            for line in list(told)[:3]:
                for order in [order for order in orders_of(shape[line[0]]) if order != told[line]][:5]:
                    same.tell(line, order)
                    self.assertIs(facts == same, False)
                same.tell(line, told[line])
            self.assertIs(facts == same, True)
        self.assertIs(Facts({"a": ["l", "r"]}) == Facts({"a": ["l"]}), False)
        self.assertIs(Facts({"a": ["l", "r"]}) == Facts({"b": ["l", "r"]}), False)
        self.assertIs(Facts(PLAIN) == Facts({**PLAIN, "c": ["u"]}), False)

    def test_equal_to_nothing_else(self):
        facts = Facts(PLAIN)
        for thing in odd_values() + [PLAIN, meet(), two_roads(), one_tie(), Wrong(0), {}, meet().times(0)]:
            if thing.__class__ is not Facts:
                self.assertIs(facts == thing, False)
                self.assertIs(facts != thing, True)
                self.assertIs(thing == facts, False)


class Fitting(Checks):
    def test_games_that_fit_and_others(self):
        draw = drawing(721)
        seen = set()
        for sizes in SOME_SIZES:
            shape = shape_of(sizes)
            for share in (1, 5, 10):
                facts, told = any_facts(draw, shape, share)
                for bound in (9, GREAT):
                    game = fitting(draw, shape, told, bound)
                    self.truth(self.unchanged(facts.fits, game), True)
                    for standing in draw.sample(game.standings(), min(4, len(game))):
                        at = draw.randrange(len(sizes))
                        gains = list(game.gains(standing))
                        gains[at] += draw.choice((-99, -1, 1, 99))
                        bent = game.with_gains(standing, gains)
                        wanted = all(order_in(bent, line) == told[line] for line in told)
                        self.truth(facts.fits(bent), wanted)
                        seen.add(wanted)
        self.assertEqual(seen, {True, False})

    def test_games_of_other_shapes(self):
        draw = drawing(722)
        for facts in (Facts(PLAIN), facts_of(meet(), [LINE])):
            self.truth(facts.fits(meet()), True)
            for game in (lone(), any_game(draw, (2, 2)), any_game(draw, (3, 3, 3)), meet().kept({"a": ["l"]}),
                         Game({"a": ["l", "r"], "c": ["l", "r"]}, {standing: meet().gains(standing) for standing in meet()}),
                         Game({**PLAIN, "c": ["u"]}, {standing + ("u",): (*meet().gains(standing), 0) for standing in meet()})):
                self.truth(facts.fits(game), False)
        self.truth(Facts(PLAIN).fits(flee()), True)
        self.truth(facts_of(meet(), [("b", ("l",))]).fits(flee()), False)

    def test_facts_of(self):
        draw = drawing(723)
        for sizes in SOME_SIZES:
            for bound in (1, GREAT):
                game = any_game(draw, sizes, bound)
                chosen = draw.sample(lines_of(game.shape()), min(4, len(lines_of(game.shape()))))
                for given in ([], chosen, chosen + chosen[:1], chosen * 2, lines_of(game.shape())):
                    before = repr(given)
                    facts = self.unchanged(facts_of, game, given)
                    self.assertEqual(repr(given), before)
                    self.exact(facts.told(), {line: order_in(game, line) for line in sorted(set(given))})
                    self.exact(facts.shape(), game.shape())
                    self.truth(facts.fits(game), True)
                self.assertEqual(facts_of(game, facts.told()), facts)
        self.exact(facts_of(meet(), [LINE]).told(), {LINE: ORDER})

    def test_the_document(self):
        facts = facts_of(meet(), [("a", ("l",)), ("a", ("r",)), ("b", ("l",))])
        self.exact(facts.told()[LINE], ORDER)
        self.exact(facts.untold(), [("b", ("r",))])
        self.truth(is_possible(facts, ("r", "r"), ("b", "l")), True)
        self.truth(is_sure(facts, ("r", "r"), ("b", "l")), False)
        self.exact(sure_rests(facts), [("l", "l")])
        self.exact(possible_rests(facts), [("l", "l"), ("r", "r")])


class Sure(Checks):
    def check(self, facts, shape, told):
        choosers, places = sorted(shape), standings_of(shape)
        sure, possible = {standing: [] for standing in places}, {standing: [] for standing in places}
        for standing, change, _, _ in moves(Game(shape, {standing: [0] * len(shape) for standing in places})):
            line = line_at(choosers, standing, change[0])
            here = standing[choosers.index(change[0])]
            left = [told[line]] if line in told else orders_of(shape[change[0]])
            betters = [rank(order, change[1]) > rank(order, here) for order in left]
            for same in (change, list(change)):
                self.truth(is_sure(facts, standing, same), all(betters))
                self.truth(is_possible(facts, standing, same), any(betters))
            if all(betters):
                sure[standing].append(change)
            if any(betters):
                possible[standing].append(change)
        self.exact(sure_rests(facts), [standing for standing in places if not possible[standing]])
        self.exact(possible_rests(facts), [standing for standing in places if not sure[standing]])

    def test_all_changes(self):
        draw = drawing(731)
        for sizes in [(1,), (4,), (1, 1), (2, 2), (1, 3), (4, 3), (2, 1, 3), (2, 2, 2), (4, 4, 4, 1), (3, 3, 3, 3)]:
            for share in (0, 5, 9, 10):
                facts, told = any_facts(draw, shape_of(sizes), share)
                self.check(facts, shape_of(sizes), told)
        facts, told = any_facts(draw, shape_of((3, 2)), 10)
        for line in list(told):
            # Told otherwise, and forgotten, between questions.
            told[line] = any_order(draw, shape_of((3, 2))[line[0]])
            facts.tell(line, told[line])
            self.check(facts, shape_of((3, 2)), told)
            facts.forget(line)
            del told[line]
            self.check(facts, shape_of((3, 2)), told)

    def test_all_lots_of_orders(self):
        shape = {"a": ["l", "r"], "b": ["l", "r"]}
        for orders in itertools.product([None] + orders_of(["l", "r"]), repeat=4):
            told = {line: order for line, order in zip(lines_of(shape), orders) if order is not None}
            facts = Facts(shape)
            for line in told:
                facts.tell(line, told[line])
            self.check(facts, shape, told)

    def test_games_that_fit(self):
        draw = drawing(732)
        for sizes in ((2, 2), (3, 2), (2, 2, 2)):
            facts, told = any_facts(draw, shape_of(sizes), 6)
            for _ in range(20):
                game = fitting(draw, shape_of(sizes), told)
                for standing, change, _, own in moves(game):
                    self.assertTrue(own > 0 or not is_sure(facts, standing, change))
                    self.assertTrue(own <= 0 or is_possible(facts, standing, change))
        game = steep_game(draw, (3, 3))
        facts = facts_of(game, lines_of(game.shape()))
        for standing, change, _, own in moves(game):
            self.truth(is_sure(facts, standing, change), own > 0)
            self.truth(is_possible(facts, standing, change), own > 0)


if __name__ == "__main__":
    unittest.main()
