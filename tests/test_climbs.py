"""Points 61, 7 and 11: heights by betterings, and where rows of betterings lead."""

import unittest

from heightgames.betterings import bettering_ring, rests
from heightgames.climbs import climb, ends, is_climb, lengths, longest, lost, reached
from heightgames.errors import NoStanding
from heightgames.games import Game
from heightgames.signs import sign_height
from tests.reference import better_moves, graph, most_from, most_to, reach
from tests.samples import (
    GREAT, SIZES, SOME_SIZES, Checks, any_game, best_game, climbing_game, drawing, flat_game, flee, lone, meet,
    not_numbers, odd_values, side_by_side, signed_game, small_and_great_games, steep_game,
)


class Climbs(Checks):
    def check(self, game):
        """Check all that is told of rows of betterings; return whether there are climbs, and best ones."""
        seen = []
        for best in (False, True):
            moves = better_moves(game, best)
            nexts = graph(game, moves)
            found = self.unchanged(climb, game, best=best)
            self.exact(found, most_to(nexts))
            self.assertIs(found is None, bettering_ring(game, best=best) is not None)
            if found is not None:
                self.truth(is_climb(game, found, best=best), True)
                self.assertLessEqual({place for place in found if found[place] == max(found.values())}, set(rests(game)))
            self.check_rows(game, moves, nexts, best)
            seen.append(found is not None)
        for call in (climb, lost, lengths):
            self.exact(call(game), call(game, best=False))
        return tuple(seen)

    def check_rows(self, game, moves, nexts, best):
        still = rests(game)
        wanted = most_from(nexts)
        self.exact(self.unchanged(lengths, game, best=best), wanted)
        self.exact(lost(game, best=best), [place for place in nexts if not (reach(nexts, place) | {place}) & set(still)])
        steps = {(move[0], move[1]) for move in moves}
        places = game.standings()
        for standing in sorted({places[0], places[len(places) // 2], places[-1]}):
            goals = reach(nexts, standing) | {standing}
            self.exact(self.unchanged(reached, game, standing, best=best), sorted(goals))
            self.exact(ends(game, standing, best=best), [place for place in still if place in goals])
            row = longest(game, standing, best=best)
            if wanted[standing] is None:
                self.assertIs(row, None)
                continue
            self.exact(row[0], standing)
            self.assertEqual(len(row[1]), wanted[standing])
            self.assertIs(row.__class__, tuple)
            self.assertIs(row[1].__class__, list)
            here = standing
            for change in row[1]:
                self.assertIn((here, change), steps)
                here = game.goal(here, change)
            self.assertIn(here, still)

    def test_all_shapes(self):
        draw = drawing(501)
        for sizes in SIZES[::8]:
            self.check(any_game(draw, sizes))
            self.assertEqual(self.check(climbing_game(draw, sizes, 3)), (True, True))

    def test_all_kinds_of_games(self):
        seen = {self.check(game) for game in small_and_great_games(drawing(502))}
        self.assertEqual(seen, {(True, True), (False, True), (False, False)})

    def test_games_with_a_height_by_best_betterings(self):
        draw = drawing(503)
        seen = {self.check(best_game(draw, sizes, bound)) for sizes in SOME_SIZES for bound in (2, 9)}
        self.assertEqual(seen, {(True, True), (False, True)})

    def test_signs_are_climbs(self):
        draw = drawing(504)
        for sizes in SOME_SIZES:
            game = signed_game(draw, sizes)
            self.truth(is_climb(game, sign_height(game)), True)
            self.truth(is_climb(game, climb(game), best=True), True)
            self.assertEqual(lost(game), [])
            self.assertEqual(lost(game, best=True), [])

    def test_side_by_side(self):
        draw = drawing(505)
        for one, other in ((climbing_game(draw, (3, 2)), climbing_game(draw, (2, 3))), (steep_game(draw, (3, 3)), any_game(draw, (4,))),
                           (meet(), lone()), (best_game(draw, (2, 3), 2), climbing_game(draw, (3, 3))), (meet(), flee())):
            both = side_by_side(one, other)
            self.check(both)
            for call in (climb, lengths):
                mine, yours = call(one), call(other)
                if mine is None or yours is None:
                    self.exact(call(both), None)
                    continue
                wanted = [None if None in (first, second) else first + second for first in mine.values() for second in yours.values()]
                self.exact(list(call(both).values()), wanted)

    def test_edges(self):
        draw = drawing(506)
        for game in (lone(), Game({"a": ["l"]}, {("l",): [7]}), any_game(draw, (4,), GREAT), any_game(draw, (1, 4)),
                     any_game(draw, (1, 1, 1, 1)), any_game(draw, (1, 1, 4), 1), flat_game(draw, (3, 3, 3, 3))):
            self.assertEqual(self.check(game), (True, True))
        still = Game({"a": ["l"]}, {("l",): [7]})
        self.exact(climb(still), {("l",): 0})
        self.exact(longest(still, ("l",)), (("l",), []))
        self.exact(lengths(still, best=True), {("l",): 0})
        line = Game({"c": ["t", "u", "v", "w"]}, {("t",): [5], ("u",): [1], ("v",): [9], ("w",): [5]})
        self.exact(climb(line), {("t",): 1, ("u",): 0, ("v",): 2, ("w",): 1})
        self.exact(climb(line, best=True), {("t",): 0, ("u",): 0, ("v",): 1, ("w",): 0})
        self.exact(longest(line, ("u",), best=True), (("u",), [("c", "v")]))
        self.assertEqual(len(longest(line, ("u",))[1]), 2)
        self.exact(reached(line, ("w",)), [("v",), ("w",)])
        self.exact(lengths(line), {("t",): 1, ("u",): 2, ("v",): 0, ("w",): 1})

    def test_a_rest_and_a_ring(self):
        # From the ring of flee, c may lead away to rests, or the ring goes on for ever.
        gains = {}
        for standing in flee():
            gains[standing + ("u",)] = flee().gains(standing) + (0,)
            gains[standing + ("v",)] = (0, 0, 1 if standing == ("l", "l") else -1)
        game = Game({"a": ["l", "r"], "b": ["l", "r"], "c": ["u", "v"]}, gains)
        self.assertEqual(self.check(game), (False, False))
        self.exact(lost(game), [])
        self.exact(ends(game, ("r", "r", "u")), [("l", "l", "v")])
        self.exact(longest(game, ("r", "r", "u")), None)
        self.exact(longest(game, ("l", "l", "v")), (("l", "l", "v"), []))
        self.exact(lengths(game)[("l", "r", "v")], None)
        self.exact(lost(flee()), flee().standings())
        self.exact(ends(flee(), ("l", "l")), [])
        self.exact(reached(flee(), ("l", "l")), flee().standings())

    def test_the_document(self):
        self.exact(climb(meet()), {("l", "l"): 1, ("l", "r"): 0, ("r", "l"): 0, ("r", "r"): 1})
        self.exact(climb(flee()), None)
        self.exact(ends(meet(), ("l", "r")), [("l", "l"), ("r", "r")])
        self.exact(lengths(meet())[("r", "l")], 1)
        self.exact(longest(flee(), ("l", "l")), None)

    def test_wrong_values(self):
        for make in (meet, flee):
            game = make()
            for thing in odd_values() + [["l", "r"], ("l", "r", "l")]:
                for call in (reached, ends, longest):
                    self.assertIs(self.raised(NoStanding, call, game, thing).standing, thing)
                    with self.assertRaises(NoStanding) as caught:
                        call(game, thing, best=True)
                    self.assertIs(caught.exception.standing, thing)
            self.assertEqual(game, make())
        for call in (reached, ends, longest):
            self.assertRaises(TypeError, lambda: call(meet(), ("l", "l"), True))
        for call in (climb, lost, lengths):
            self.assertRaises(TypeError, lambda: call(meet(), True))
        self.assertRaises(TypeError, lambda: is_climb(meet(), {}, True))

    def test_what_is_returned_is_new(self):
        for game in (meet(), flee(), lone()):
            for best in (True, False):
                for call in (climb, lost, lengths):
                    self.new_each_time(call, game, best=best)
                for call in (reached, ends, longest):
                    for standing in game:
                        self.new_each_time(call, game, standing, best=best)


class IsClimb(Checks):
    def test_heights(self):
        draw = drawing(511)
        seen = set()
        for sizes in SOME_SIZES:
            for make in (climbing_game, best_game, steep_game, any_game):
                game = make(draw, sizes, draw.choice((1, GREAT)))
                for best in (False, True):
                    found = climb(game, best=best)
                    if found is None:
                        self.truth(is_climb(game, {standing: 0 for standing in game}, best=best), False)
                        continue
                    pairs = [(move[0], move[2]) for move in better_moves(game, best)]
                    for factor, number in ((1, 0), (3, -7), (GREAT, GREAT)):
                        other = {standing: factor * found[standing] + number for standing in reversed(found)}
                        self.truth(self.unchanged(is_climb, game, other, best=best), True)
                    for standing in draw.sample(game.standings(), min(4, len(game))):
                        for number in (-1, 1, 5):
                            other = {**found, standing: found[standing] + number}
                            wanted = all(other[goal] > other[place] for place, goal in pairs)
                            self.truth(is_climb(game, other, best=best), wanted)
                            seen.add((best, wanted))
        self.assertEqual(seen, {(True, True), (True, False), (False, True), (False, False)})

    def test_best_asks_for_less(self):
        line = Game({"c": ["u", "v", "w"]}, {("u",): [0], ("v",): [1], ("w",): [2]})
        numbers = {("u",): 0, ("v",): 0, ("w",): 1}
        self.truth(is_climb(line, numbers, best=True), True)
        self.truth(is_climb(line, numbers, best=False), False)
        self.truth(is_climb(line, numbers), False)

    def test_what_is_no_height(self):
        zero = meet().times(0)
        nothing = {standing: 0 for standing in zero}
        for best in (True, False):
            self.truth(is_climb(zero, nothing, best=best), True)
            for thing in odd_values() + not_numbers(nothing):
                self.truth(is_climb(zero, thing, best=best), False)
                self.truth(is_climb(meet(), thing, best=best), False)
            for thing in not_numbers(climb(meet())):
                self.truth(is_climb(meet(), thing, best=best), False)
            self.truth(is_climb(flee(), nothing, best=best), False)


if __name__ == "__main__":
    unittest.main()
