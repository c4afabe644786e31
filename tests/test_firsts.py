"""Points 92 and 7: first ways, from which all rows of betterings lead to rests that are wished."""

import itertools
import unittest

from heightgames.betterings import bettering_ring, is_bettering_ring, rests
from heightgames.firsts import firsts, is_lead, is_stray, lead_ranks, leads, stray
from heightgames.games import Game
from tests.reference import better_moves, graph, most_from, reach
from tests.samples import (
    GREAT, PLAIN, Checks, any_game, begun_at, best_game, climbing_game, drawing, flee, lone, meet, not_numbers, not_rings, odd_values,
    same_rings, side_by_side, small_and_great_games, steep_game,
)


def begin_with(game, first):
    return [standing for standing in game.standings()
            if all(first.get(name, way) == way for name, way in zip(game.choosers(), standing))]


def behind(game, first):
    """All standings to which rows of betterings lead from a beginning, beginnings too."""
    nexts = graph(game, better_moves(game))
    found = set(begin_with(game, first))
    for standing in list(found):
        found |= reach(nexts, standing)
    return found


def do_lead(game, first, wished):
    most = most_from(graph(game, better_moves(game)))
    return all(most[place] is not None and (most[place] > 0 or place in wished) for place in behind(game, first))


def any_first(draw, game):
    return {name: draw.choice(game.ways(name)) for name in draw.sample(game.choosers(), draw.randint(0, len(game.choosers())))}


def all_firsts(game):
    """All first ways, as tuples: fewest choosers first, these ascending."""
    found = []
    for many in range(len(game.choosers()) + 1):
        for names in itertools.combinations(game.choosers(), many):
            for ways in itertools.product(*[game.ways(name) for name in names]):
                found.append(tuple(zip(names, ways)))
    return sorted(found, key=lambda first: (len(first), first))


def wishes(draw, game):
    """Lists of wished standings: the rests, some, any, none, some twice."""
    still = rests(game)
    some = draw.sample(still, len(still) // 2)
    others = draw.sample(game.standings(), len(game) // 2)
    return [still, still[::-1], some, still[:1], [], others, some + some, still + others, game.standings() * 2]


class Leads(Checks):
    def check(self, game, first, wished):
        wanted = do_lead(game, first, wished)
        self.truth(self.unchanged(leads, game, first, wished), wanted)
        ranks = self.unchanged(lead_ranks, game, first, wished)
        away = self.unchanged(stray, game, first, wished)
        self.assertIs(ranks is None, not wanted)
        self.assertIs(away is None, wanted)
        if wanted:
            most = most_from(graph(game, better_moves(game)))
            self.exact(ranks, {standing: most[standing] for standing in sorted(behind(game, first))})
            self.truth(self.unchanged(is_lead, game, first, wished, ranks), True)
            return "leads"
        return self.check_stray(game, first, wished, away)

    def check_stray(self, game, first, wished, away):
        self.assertIs(away.__class__, tuple)
        row, ring = away
        self.assertEqual((row.__class__, row[0].__class__, row[1].__class__), (tuple, tuple, list))
        steps = {(move[0], move[1]): move[2] for move in better_moves(game)}
        here = row[0]
        self.assertIn(here, begin_with(game, first))
        for change in row[1]:
            self.assertIn((here, change), steps)
            here = steps[(here, change)]
        if ring is None:
            self.assertIn(here, rests(game))
            self.assertNotIn(here, wished)
        else:
            self.assertEqual(ring[0], here)
            self.truth(is_bettering_ring(game, ring), True)
        self.truth(self.unchanged(is_stray, game, first, wished, away), True)
        return "rest" if ring is None else "ring"

    def test_all_kinds_of_games(self):
        draw = drawing(1501)
        seen = set()
        for game in small_and_great_games(draw):
            for wished in wishes(draw, game):
                seen.add(self.check(game, any_first(draw, game), wished))
        self.assertEqual(seen, {"leads", "rest", "ring"})

    def test_all_first_ways(self):
        draw = drawing(1502)
        for make in (any_game, climbing_game, steep_game, best_game):
            for sizes in ((3,), (2, 2), (3, 2), (2, 1, 2)):
                game = make(draw, sizes, 3)
                for first in all_firsts(game):
                    for wished in (rests(game), rests(game)[:1], []):
                        self.check(game, dict(reversed(first)), wished)

    def test_rings_behind_several_beginnings(self):
        draw = drawing(1504)
        seen = []
        for sizes in ((2, 2), (3, 3), (2, 2, 2), (4, 3)):
            for _ in range(25):
                game = any_game(draw, sizes)
                seen.append(self.check(game, {}, game.standings()))
                seen.append(self.check(game, any_first(draw, game), game.standings()))
        self.assertGreater(seen.count("ring"), 50)
        self.assertGreater(seen.count("leads"), 20)

    def test_no_first_ways_lead_to_all_rests_just_without_rings(self):
        for game in small_and_great_games(drawing(1503)):
            self.truth(leads(game, {}, rests(game)), bettering_ring(game) is None)
            self.truth(leads(game, {}, []), False)

    def test_edges(self):
        still = Game({"a": ["l"]}, {("l",): [7]})
        for first in ({}, {"a": "l"}):
            self.exact(lead_ranks(still, first, [("l",)]), {("l",): 0})
            self.exact(lead_ranks(still, first, []), None)
            self.exact(stray(still, first, []), ((("l",), []), None))
        self.exact(lead_ranks(lone(), {}, [("v",), ("v",)]), {("u",): 1, ("v",): 0})
        self.exact(lead_ranks(lone(), {"c": "v"}, [("v",)]), {("v",): 0})
        self.exact(lead_ranks(lone(), {"c": "u"}, [("v",)]), {("u",): 1, ("v",): 0})
        self.exact(stray(lone(), {"c": "u"}, [("u",)]), ((("u",), [("c", "v")]), None))
        for first in ({}, {"a": "l"}, {"a": "l", "b": "r"}):
            self.exact(lead_ranks(flee(), first, flee().standings()), None)
            self.assertEqual(len(stray(flee(), first, flee().standings())[1][1]), 4)

    def test_the_document(self):
        self.exact([firsts(meet(), [("l", "l")]), firsts(lone(), [("v",)]), stray(meet(), {}, [("l", "l"), ("r", "r")])],
                   [(("a", "l"), ("b", "l")), (), None])

    def test_what_is_returned_is_new(self):
        for game in (meet(), lone(), flee()):
            for wished in (rests(game), []):
                for call in (lead_ranks, stray):
                    self.new_each_time(call, game, {}, wished)
                self.exact(firsts(game, wished), firsts(game, wished))


class IsLead(Checks):
    def test_numbers_otherwise(self):
        draw = drawing(1511)
        seen = set()
        for game in small_and_great_games(draw):
            if len(game) > 40:
                continue
            first, wished = any_first(draw, game), rests(game)
            found = lead_ranks(game, first, wished)
            if found is None:
                continue
            nexts = graph(game, better_moves(game))
            starts = begin_with(game, first)

            def holds(numbers):
                return all(place in numbers for place in starts) and min(numbers.values(), default=0) >= 0 and all(
                    place in wished if not nexts[place] else all(goal in numbers and numbers[goal] < numbers[place] for goal in nexts[place])
                    for place in numbers)

            for place in found:
                for number in (found[place] - 1, found[place] + 1, -1, 0, GREAT):
                    other = {**found, place: number}
                    self.truth(is_lead(game, first, wished, other), holds(other))
                    seen.add(holds(other))
                less = {goal: found[goal] for goal in found if goal != place}
                self.truth(is_lead(game, first, wished, less), holds(less))
                seen.add(holds(less))
            for place in game.standings()[:6]:
                more = {place: GREAT, **found}
                self.truth(is_lead(game, first, wished, more), holds(more))
                seen.add(holds(more))
            self.truth(is_lead(game, first, wished, {place: found[place] + 5 for place in reversed(found)}), True)
            self.truth(is_lead(game, first, wished, {place: found[place] - 1 for place in found}), False)
            for rest in [place for place in found if place in wished]:
                self.truth(is_lead(game, first, [place for place in wished if place != rest], found), False)
        self.assertEqual(seen, {True, False})

    def test_all_numbers_of_a_small_game(self):
        game = Game(PLAIN, {("l", "l"): (2, 2), ("l", "r"): (0, 0), ("r", "l"): (0, 0), ("r", "r"): (1, 1)})
        for many in range(5):
            for places in itertools.combinations(game.standings(), many):
                for numbers in itertools.product((0, 1, 2), repeat=many):
                    thing = dict(zip(places, numbers))
                    for first in ({}, {"a": "l"}, {"a": "l", "b": "l"}):
                        for wished in (rests(game), [("l", "l")]):
                            wanted = all(place in thing for place in begin_with(game, first))
                            for place, number in thing.items():
                                goals = graph(game, better_moves(game))[place]
                                wanted = wanted and (bool(goals) or place in wished)
                                wanted = wanted and all(thing.get(goal, number) < number for goal in goals)
                            self.truth(is_lead(game, first, wished, thing), wanted)

    def test_what_is_no_such_dict(self):
        for game in (meet(), lone()):
            found = lead_ranks(game, {}, rests(game))
            self.truth(is_lead(game, {}, rests(game), found), True)
            for thing in odd_values() + not_numbers(found):
                self.truth(is_lead(game, {}, rests(game), thing), False)
        # No beginnings are missing in a dict without what no row comes to.
        first = {"a": "l", "b": "l"}
        self.truth(is_lead(meet(), first, rests(meet()), {("l", "l"): 0}), True)
        self.truth(is_lead(meet(), first, rests(meet()), {("l", "l"): GREAT}), True)
        self.truth(is_lead(meet(), first, [("r", "r")], {("l", "l"): 0}), False)
        self.truth(is_lead(meet(), first, rests(meet()), {}), False)
        for number in (True, False, -1, None, "0", [0], (0,), b"0"):
            self.truth(is_lead(meet(), first, rests(meet()), {("l", "l"): number}), False)
        for key in ("ll", ("l",), ("l", "l", "l"), ("l", "x"), None, 0, ("a", "l"), (("l", "l"),), frozenset("l")):
            self.truth(is_lead(meet(), first, rests(meet()), {("l", "l"): 0, key: 0}), False)


class IsStray(Checks):
    def ringed(self):
        """A game in which c, coming last, may lead from the ring of flee to a rest."""
        gains = {}
        for standing in flee():
            gains[standing + ("u",)] = flee().gains(standing) + (0,)
            gains[standing + ("v",)] = (9, 9, 1) if standing == ("l", "l") else (0, 0, 1)
        return Game({**PLAIN, "c": ["u", "v"]}, gains)

    def test_strays_otherwise(self):
        draw = drawing(1521)
        seen = set()
        games = [self.ringed(), side_by_side(flee(), lone()), any_game(draw, (3, 3)), any_game(draw, (2, 2, 2)), climbing_game(draw, (3, 3))]
        for game in games:
            steps = {(move[0], move[1]) for move in better_moves(game)}
            for first in all_firsts(game)[::3]:
                first = dict(first)
                for wished in (rests(game), rests(game)[:1], []):
                    away = stray(game, first, wished)
                    if away is None:
                        continue
                    row, ring = away
                    rows = [row, (row[0], row[1][:-1]), (row[0], row[1][1:]), (row[0], []), (row[0], row[1] * 2)]
                    for standing in game.standings()[::3]:
                        rows.append((standing, []))
                        rows.extend((standing, [change]) for change in game.changes(standing))
                    every = bettering_ring(game)
                    rings = [ring, None] if every is None else [ring, None, every, begun_at(game, every, 1)]
                    for one, other in itertools.product(rows, rings):
                        self.truth(is_stray(game, first, wished, (one, other)), self.holds(game, steps, first, wished, one, other))
                        seen.add((self.holds(game, steps, first, wished, one, other), other is None))
        self.assertEqual(seen, {(True, True), (True, False), (False, True), (False, False)})

    def holds(self, game, steps, first, wished, row, ring):
        here = row[0]
        fits = here in begin_with(game, first)
        for change in row[1]:
            if not fits or (here, change) not in steps:
                return False
            here = game.goal(here, change)
        if ring is None:
            return fits and here in rests(game) and here not in wished
        return fits and ring[0] == here and is_bettering_ring(game, ring)

    def test_lists_and_other_rings(self):
        game = self.ringed()
        away = stray(game, {"c": "u"}, rests(game))
        row, ring = away
        self.assertIsNot(ring, None)
        for same in same_rings(flee(), (ring[0][:2], ring[1])):
            whole = (tuple(same[0]) + ("u",), same[1])
            place = tuple(same[0]) + ("u",)
            fits = place == ring[0]
            self.truth(is_stray(game, {"c": "u"}, rests(game), (row, whole)), fits)
            self.truth(is_stray(game, {"c": "u"}, rests(game), (row, [list(whole[0]), list(whole[1])])), fits)
        for lists in ((list(row[0]), row[1]), [list(row[0]), [list(change) for change in row[1]]], (row[0], tuple(row[1]))):
            self.truth(self.unchanged(is_stray, game, {"c": "u"}, rests(game), (lists, ring)), True)
        for thing in ([row, ring], (row,), (row, ring, None), (ring, row), (row, None), row, ring, {row[0]: ring}, (row, (ring[0], [])),
                      ((row[0], row[1] + ring[1][:1]), ring), (row, ()), (row, False), (row, 0)):
            self.truth(is_stray(game, {"c": "u"}, rests(game), thing), False)
        for thing in not_rings(ring) + odd_values():
            if thing is not None:
                self.truth(is_stray(game, {"c": "u"}, rests(game), (row, thing)), False)

    def test_rows_that_are_long(self):
        game = side_by_side(flee(), lone())
        ring = bettering_ring(game)
        long_row = (ring[0], ring[1] * 50)
        self.truth(is_stray(game, {}, rests(game), (long_row, ring)), True)
        self.truth(is_stray(game, {}, rests(game), ((ring[0], ring[1] * 51), ring)), False)
        self.truth(is_stray(game, {}, rests(game), (ring, long_row)), True)

    def test_what_is_no_stray(self):
        for game in (meet(), lone(), flee()):
            for thing in odd_values():
                for wished in ([], rests(game)):
                    self.truth(is_stray(game, {}, wished, thing), False)
                    if thing.__class__ is not tuple or len(thing) != 2:
                        self.truth(is_stray(game, {}, wished, (thing, None)), False)
        self.truth(is_stray(meet(), {}, [], ((("l", "l"), []), None)), True)
        self.truth(is_stray(meet(), {}, [], ((("l", "r"), []), None)), False)
        self.truth(is_stray(meet(), {}, [("l", "l")], ((("l", "l"), []), None)), False)
        self.truth(is_stray(meet(), {"a": "r"}, [], ((("l", "l"), []), None)), False)
        self.truth(is_stray(meet(), {}, [], ((("l", "r"), [("b", "l")]), None)), True)
        self.truth(is_stray(meet(), {}, [], ((("l", "r"), [("b", "r")]), None)), False)
        self.truth(is_stray(meet(), {}, [], ((("l", "l"), [("b", "r")]), None)), False)


class Firsts(Checks):
    def check(self, game, wished):
        found = self.unchanged(firsts, game, wished)
        wanted = next((first for first in all_firsts(game) if do_lead(game, dict(first), wished)), None)
        self.exact(found, wanted)
        self.assertIs(found is None, not set(wished) & set(rests(game)))
        if found is not None:
            self.truth(leads(game, dict(found), wished), True)
            return len(found)
        return None

    def test_small_games(self):
        draw = drawing(1531)
        seen = set()
        for make in (any_game, steep_game, climbing_game, best_game):
            for sizes in ((1,), (4,), (2, 2), (3, 2), (2, 1, 2), (2, 2, 2), (3, 2, 2)):
                game = make(draw, sizes, 2)
                for wished in wishes(draw, game):
                    seen.add(self.check(game, wished))
        self.assertEqual(seen, {None, 0, 1, 2, 3})

    def test_betterings_that_are_not_best(self):
        draw = drawing(1533)
        seen = set()
        for sizes in ((3, 3), (4, 3), (3, 2, 2)):
            for _ in range(12):
                game = climbing_game(draw, sizes)
                for wished in ([place] for place in rests(game)):
                    seen.add(self.check(game, wished))
        self.assertLessEqual({1, 2}, seen)

    def test_great_games(self):
        draw = drawing(1532)
        seen = set()
        for make in (any_game, steep_game, climbing_game):
            game = make(draw, (3, 3, 3, 2), 9)
            for wished in (rests(game)[-1:], rests(game)[:2], []):
                found = firsts(game, wished)
                self.assertIs(found is None, not wished)
                seen.add(found is None)
                if found is not None:
                    self.truth(leads(game, dict(found), wished), True)
                    for fewer in itertools.combinations(found, max(0, len(found) - 1)):
                        self.truth(leads(game, dict(fewer), wished), not found)
        self.assertEqual(seen, {True, False})

    def test_edges(self):
        self.exact(firsts(flee(), flee().standings()), None)
        self.exact(firsts(meet(), [("r", "r")]), (("a", "r"), ("b", "r")))
        self.exact(firsts(meet(), rests(meet())), ())
        self.exact(firsts(meet(), [("l", "r")]), None)
        self.exact(firsts(meet(), []), None)
        self.exact(firsts(Game({"a": ["l"]}, {("l",): [7]}), [("l",)] * 3), ())
        self.exact(firsts(side_by_side(lone(), meet()), [("anorth", "beast", "ceast")]), (("bob", "beast"), ("cid", "ceast")))


if __name__ == "__main__":
    unittest.main()
