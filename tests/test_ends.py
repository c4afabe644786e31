"""Points 71 and 9: whether betterings end, as far as facts tell."""

import itertools
import unittest

from heightgames.betterings import is_bettering_ring
from heightgames.climbs import climb
from heightgames.ends import ending_game, fate, is_sure_climb, possible_ring, settling, sure_climb
from heightgames.facts import Facts, facts_of
from heightgames.games import Game
from tests.reference import orders_of, reach
from tests.samples import (
    GREAT, PLAIN, SOME_SIZES, Checks, any_game, climbing_game, drawing, flee, lone, meet, not_numbers, odd_values,
    shape_of, signed_game, standings_of,
)
from tests.test_facts import any_facts, fitting, lines_of, rank

RING = [(("l", "l"), ("b", "r")), (("l", "r"), ("a", "r")), (("r", "r"), ("b", "l")), (("r", "l"), ("a", "l"))]


def along(shape, line):
    at = sorted(shape).index(line[0])
    return [(way, line[1][:at] + (way,) + line[1][at:]) for way in shape[line[0]]]


def arrows(shape, line, order):
    """The betterings along a line with an order."""
    places = along(shape, line)
    return [(standing, goal) for way, standing in places for by, goal in places if rank(order, by) > rank(order, way)]


def has_ring(places, pairs):
    nexts = {place: [] for place in places}
    for standing, goal in pairs:
        nexts[standing].append(goal)
    left = dict(nexts)
    while True:
        ends = [place for place in left if not any(goal in left for goal in left[place])]
        if not ends:
            return bool(left)
        for place in ends:
            del left[place]


def fate_by_games(shape, told):
    """The fate, by all orders of the lines that are not told."""
    places = standings_of(shape)
    sure = [pair for line in told for pair in arrows(shape, line, told[line])]
    free = [line for line in lines_of(shape) if line not in told and len(shape[line[0]]) > 1]
    rows = [[arrows(shape, line, order) for order in orders_of(shape[line[0]])] for line in free]
    found = {has_ring(places, sure + [pair for row in chosen for pair in row]) for chosen in itertools.product(*rows)}
    return "open" if len(found) == 2 else "turns" if found == {True} else "ends"


def leads_back(shape, told):
    """Whether a way over untold lines, each once, leads back: standings and lines that make no tree."""
    free = [line for line in lines_of(shape) if line not in told and len(shape[line[0]]) > 1]
    nexts = {place: set() for place in standings_of(shape) + free}
    for line in free:
        for _, standing in along(shape, line):
            nexts[line].add(standing)
            nexts[standing].add(line)
    parts = {min(map(repr, reach(nexts, node) | {node})) for node in nexts}
    return sum(len(goals) for goals in nexts.values()) // 2 != len(nexts) - len(parts)


def shows_the_end(shape, told, numbers):
    """Whether numbers show that facts surely end, by the definition."""
    if leads_back(shape, told):
        return False
    for line in lines_of(shape):
        places = [standing for _, standing in along(shape, line)]
        if line in told:
            if not all(numbers[goal] > numbers[standing] for standing, goal in arrows(shape, line, told[line])):
                return False
        elif len({numbers[standing] for standing in places}) > 1:
            return False
    return True


def least_climb(shape, told):
    """The least numbers that show it, raised as long as they are too low."""
    numbers = {standing: 0 for standing in standings_of(shape)}
    while max(numbers.values()) <= len(numbers):
        before = dict(numbers)
        for line in lines_of(shape):
            if line in told:
                for standing, goal in arrows(shape, line, told[line]):
                    numbers[goal] = max(numbers[goal], numbers[standing] + 1)
            else:
                places = [standing for _, standing in along(shape, line)]
                numbers.update({standing: max(numbers[place] for place in places) for standing in places})
        if numbers == before:
            return numbers
    return None


def telling(shape, told):
    facts = Facts(shape)
    for line in told:
        facts.tell(line, told[line])
    return facts


class Fates(Checks):
    def check(self, facts, shape, told):
        """Check all that is told of the end of betterings but settling; return the fate."""
        found = self.unchanged(fate, facts)
        numbers, ring, game = sure_climb(facts), possible_ring(facts), ending_game(facts)
        self.exact(sure_climb(facts), numbers)
        self.assertIs(numbers is None, found != "ends")
        self.assertIs(ring is None, found == "ends")
        self.assertIs(game is None, found == "turns")
        if numbers is not None:
            self.assertFalse(leads_back(shape, told))
            self.exact(numbers, least_climb(shape, told))
            self.truth(is_sure_climb(facts, numbers), True)
        if ring is not None:
            self.assertIs(ring.__class__, tuple)
            self.assertIs(ring[0].__class__, Game)
            self.truth(facts.fits(ring[0]), True)
            self.truth(is_bettering_ring(ring[0], ring[1]), True)
        if game is not None:
            self.assertIs(game.__class__, Game)
            self.truth(facts.fits(game), True)
            self.assertIsNot(climb(game), None)
        self.exact(facts.told(), {line: told[line] for line in sorted(told)})
        return found

    def test_all_lots_of_orders(self):
        shape = {"a": ["l", "r"], "b": ["l", "r"]}
        seen = []
        for orders in itertools.product([None] + orders_of(["l", "r"]), repeat=4):
            told = {line: order for line, order in zip(lines_of(shape), orders) if order is not None}
            found = self.check(telling(shape, told), shape, told)
            self.assertEqual(found, fate_by_games(shape, told))
            seen.append(found)
        # Two games of four strict orders go round; where one line or more is left of such a game, facts are open.
        self.assertEqual((seen.count("turns"), seen.count("open")), (2, 2 * (16 - 1) - 1))

    def test_small_shapes(self):
        draw = drawing(801)
        seen = []
        for sizes, most in (((2, 3), 3), ((2, 2, 2), 5), ((3, 3), 2), ((1, 3, 2), 3), ((2, 1, 2, 2), 4), ((4,), 1), ((4, 2), 2)):
            shape = shape_of(sizes)
            for _ in range(14):
                game = draw.choice((any_game, climbing_game, signed_game))(draw, sizes, draw.choice((1, 9)))
                lines = lines_of(shape)
                told = facts_of(game, draw.sample(lines, len(lines) - draw.randint(0, min(most, len(lines))))).told()
                found = self.check(telling(shape, told), shape, told)
                self.assertEqual(found, fate_by_games(shape, told))
                seen.append(found)
        self.assertEqual(set(seen), {"ends", "turns", "open"})
        self.assertTrue(min(seen.count(word) for word in set(seen)) >= 4)

    def test_all_shapes(self):
        draw = drawing(802)
        seen = set()
        for sizes in SOME_SIZES + [(4, 4, 4, 1)]:
            for share in (0, 6, 8, 9, 10):
                shape = shape_of(sizes)
                facts, told = any_facts(draw, shape, share)
                seen.add(self.check(facts, shape, told))
                lines = lines_of(shape)
                told = facts_of(climbing_game(draw, sizes), draw.sample(lines, len(lines) * share // 10)).told()
                seen.add(self.check(telling(shape, told), shape, told))
        self.assertEqual(seen, {"ends", "turns", "open"})

    def test_untold_lines_that_lead_back(self):
        # Where all ways of the lines that are told gain the same, only untold lines make a ring.
        draw = drawing(806)
        for sizes, most in (((2, 2), 4), ((3, 3), 6), ((2, 2, 2), 8), ((2, 2, 2, 2), 17), ((3, 2, 2), 8), ((3, 3, 3), 12)):
            shape = shape_of(sizes)
            seen = []
            for _ in range(60):
                lines = lines_of(shape)
                free = draw.sample(lines, draw.randint(1, most))
                told = {line: (tuple(shape[line[0]]),) for line in lines if line not in free}
                facts = telling(shape, told)
                back = leads_back(shape, told)
                self.truth(is_sure_climb(facts, {standing: 7 for standing in standings_of(shape)}), not back)
                self.assertIs(possible_ring(facts) is None, not back)
                if back:
                    self.check(facts, shape, told)
                seen.append(back)
            self.assertEqual(set(seen), {True, False})

    def test_few_lines_untold(self):
        # Of games with a climb few lines are left out, which join standings to trees or lead back.
        draw = drawing(803)
        seen = []
        for sizes in ((3, 3), (2, 2, 2), (3, 3, 3), (2, 2, 2, 2), (4, 4, 4), (3, 3, 3, 3)):
            lines = lines_of(shape_of(sizes))
            for many in (1, 2, 3, 5, 8):
                for make in (climbing_game, signed_game):
                    game = make(draw, sizes, 9)
                    left = draw.sample(lines, many) if many <= len(lines) else lines
                    told = facts_of(game, [line for line in lines if line not in left]).told()
                    seen.append(self.check(telling(shape_of(sizes), told), shape_of(sizes), told))
        self.assertTrue(seen.count("ends") > 5 and seen.count("open") > 5)

    def test_games_that_fit(self):
        draw = drawing(804)
        for sizes in ((3, 2), (2, 2, 2), (3, 3, 3)):
            for share in (7, 9, 10):
                facts, told = any_facts(draw, shape_of(sizes), share)
                word = fate(facts)
                for _ in range(15):
                    game = fitting(draw, shape_of(sizes), told)
                    self.assertTrue(word == "open" or (climb(game) is None) == (word == "turns"))

    def test_told_otherwise_and_forgotten(self):
        facts = Facts(PLAIN)
        self.exact(fate(facts), "open")
        for standing, change in RING:
            at = "ab".index(change[0])
            line = (change[0], standing[:at] + standing[at + 1:])
            self.exact(fate(facts), "open")
            facts.tell(line, ((standing[at],), (change[1],)))
        self.exact(fate(facts), "turns")
        self.exact(sure_climb(facts), None)
        self.exact(ending_game(facts), None)
        facts.tell(line, ((change[1],), (standing[at],)))
        self.exact(fate(facts), "ends")
        self.exact(possible_ring(facts), None)
        facts.forget(line)
        self.exact(fate(facts), "open")
        facts.tell(line, (("l", "r"),))
        self.exact(fate(facts), "ends")
        self.check(facts, PLAIN, facts.told())
        # Sure betterings within a lump, and from lump to lump and back.
        few = telling(PLAIN, {("a", ("l",)): (("l",), ("r",))})
        self.exact(self.check(few, PLAIN, few.told()), "open")
        two = telling(PLAIN, {("a", ("l",)): (("l",), ("r",)), ("a", ("r",)): (("r",), ("l",))})
        self.exact(self.check(two, PLAIN, two.told()), "open")
        two.tell(("a", ("r",)), (("l",), ("r",)))
        self.exact(self.check(two, PLAIN, two.told()), "ends")
        self.exact(sure_climb(two), {("l", "l"): 0, ("l", "r"): 0, ("r", "l"): 1, ("r", "r"): 1})

    def test_edges(self):
        for shape in ({"a": ["l"]}, {"a": ["l", "r", "s", "t"]}, {"a": ["l"], "b": ["m", "n"]}, {name: ["l"] for name in "abcd"}):
            facts = Facts(shape)
            self.exact(self.check(facts, shape, {}), "ends")
            self.exact(sure_climb(facts), {standing: 0 for standing in standings_of(shape)})
            for line in facts.untold():
                facts.tell(line, [[way] for way in shape[line[0]]])
            self.exact(self.check(facts, shape, facts.told()), "ends")
            self.exact(list(sure_climb(facts).values()), list(range(len(standings_of(shape)))))
        alone = facts_of(lone(), [("c", ())])
        self.exact(sure_climb(alone), {("u",): 0, ("v",): 1})
        self.exact(fate(facts_of(flee(), lines_of(PLAIN))), "turns")
        self.exact(fate(facts_of(meet(), lines_of(PLAIN))), "ends")

    def test_a_line_of_one_way_told(self):
        shape = {"a": ["l", "r"], "b": ["m"]}
        facts = telling(shape, {("b", ("l",)): (("m",),)})
        self.exact(self.check(facts, shape, facts.told()), "ends")
        facts.tell(("a", ("m",)), (("r",), ("l",)))
        self.exact(sure_climb(facts), {("l", "m"): 1, ("r", "m"): 0})

    def test_the_document(self):
        facts = facts_of(meet(), [("a", ("l",)), ("a", ("r",)), ("b", ("l",))])
        self.exact(fate(facts), "ends")
        self.exact(sure_climb(facts), {("l", "l"): 2, ("l", "r"): 0, ("r", "l"): 1, ("r", "r"): 1})
        self.exact(fate(Facts(PLAIN)), "open")
        self.exact(settling(Facts(PLAIN)), [])

    def test_what_is_returned_is_new(self):
        half = facts_of(meet(), [("a", ("l",)), ("a", ("r",)), ("b", ("l",))])
        for facts in (half, Facts(PLAIN), facts_of(flee(), lines_of(PLAIN)), facts_of(flee(), lines_of(PLAIN)[1:])):
            for call in (sure_climb, settling, lambda asked: (possible_ring(asked) or (None, None))[1]):
                self.new_each_time(call, facts)
            for call in (fate, ending_game, possible_ring):
                self.unchanged(call, facts)


class IsSureClimb(Checks):
    def test_numbers(self):
        draw = drawing(811)
        seen = set()
        for sizes in ((3,), (2, 2), (3, 2), (2, 2, 2), (3, 3), (2, 1, 3), (3, 3, 3)):
            lines = lines_of(shape_of(sizes))
            for many in (0, 1, 1, 2):
                game = climbing_game(draw, sizes, 9)
                told = facts_of(game, draw.sample(lines, max(0, len(lines) - many))).told()
                facts = telling(shape_of(sizes), told)
                found = sure_climb(facts) or climb(game)
                for factor, number in ((1, 0), (2, -3), (GREAT, -GREAT)):
                    other = {standing: factor * found[standing] + number for standing in reversed(found)}
                    wanted = shows_the_end(shape_of(sizes), told, other)
                    self.truth(self.unchanged(is_sure_climb, facts, other), wanted)
                    seen.add(wanted)
                for standing in draw.sample(list(found), min(6, len(found))):
                    for number in (-1, 1, 9):
                        other = {**found, standing: found[standing] + number}
                        wanted = shows_the_end(shape_of(sizes), told, other)
                        self.truth(is_sure_climb(facts, other), wanted)
                        seen.add(wanted)
        self.assertEqual(seen, {True, False})

    def test_a_way_back_over_untold_lines(self):
        # All numbers are equal along the lines that are not told, and still nothing is shown.
        zero = {standing: 0 for standing in meet()}
        self.truth(is_sure_climb(Facts(PLAIN), zero), False)
        facts = telling(PLAIN, {("a", ("l",)): (("l", "r"),)})
        self.truth(is_sure_climb(facts, zero), True)
        self.truth(is_sure_climb(facts, {**zero, ("l", "l"): 1}), False)
        facts.forget(("a", ("l",)))
        self.truth(is_sure_climb(facts, zero), False)

    def test_what_is_no_climb(self):
        facts = facts_of(meet(), [("a", ("l",)), ("a", ("r",)), ("b", ("l",))])
        numbers = sure_climb(facts)
        flat = facts_of(meet().times(0), lines_of(PLAIN))
        zero = {standing: 0 for standing in meet()}
        self.truth(is_sure_climb(flat, zero), True)
        for thing in odd_values() + not_numbers(zero) + not_numbers(numbers):
            self.truth(is_sure_climb(flat, thing), False)
            self.truth(is_sure_climb(facts, thing), False)
        self.truth(is_sure_climb(facts, zero), False)
        self.truth(is_sure_climb(facts_of(flee(), lines_of(PLAIN)), zero), False)


class Settling(Checks):
    def wanted(self, facts, shape):
        free = facts.untold()
        if fate(facts) != "open":
            return free
        found = []
        for line in free:
            fates = []
            for order in orders_of(shape[line[0]]):
                other = facts.copied()
                other.tell(line, order)
                fates.append(fate(other))
            if "open" not in fates:
                found.append(line)
        return found

    def test_small_shapes(self):
        draw = drawing(821)
        seen = set()
        for sizes in ((4,), (1, 3), (2, 2), (3, 2), (2, 2, 2), (3, 3), (2, 1, 2, 2)):
            shape = shape_of(sizes)
            for _ in range(12):
                lines = lines_of(shape)
                game = draw.choice((any_game, climbing_game))(draw, sizes)
                told = facts_of(game, draw.sample(lines, max(0, len(lines) - draw.randint(0, 4)))).told()
                facts = telling(shape, told)
                found = self.unchanged(settling, facts)
                self.exact(found, self.wanted(facts, shape))
                self.exact(facts.told(), told)
                seen.add((fate(facts), found != [], found == facts.untold()))
        self.assertLessEqual({("open", True, True), ("open", False, False), ("ends", True, True)}, seen)

    def test_one_line_left(self):
        # What is left of a game that goes round is open until the last line is told, which settles it.
        lines = lines_of(PLAIN)
        facts = facts_of(flee(), lines)
        self.exact(settling(facts), [])
        for line in lines:
            facts = facts_of(flee(), [other for other in lines if other != line])
            self.exact(fate(facts), "open")
            self.exact(settling(facts), [line])
        self.exact(settling(facts_of(flee(), lines[:2])), [])
        self.exact(settling(facts_of(meet(), lines[1:])), lines[:1])
        self.exact(settling(Facts({"a": ["l", "r"], "b": ["m"]})), [("a", ("m",))])

    def test_some_lines_of_many(self):
        # Beside one line that leaves a ring open stands another that leaves none.
        draw = drawing(822)
        seen = set()
        for _ in range(40):
            game = any_game(draw, (2, 2, 2), 9)
            lines = lines_of(game.shape())
            facts = facts_of(game, draw.sample(lines, len(lines) - 3))
            found = settling(facts)
            self.exact(found, self.wanted(facts, game.shape()))
            seen.add((fate(facts) == "open", len(found)))
        self.assertLessEqual({(True, 0), (True, 1)}, seen)


if __name__ == "__main__":
    unittest.main()
