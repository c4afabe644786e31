"""Points 50, 2 and 7: heights by weights, and what is against all weights."""

import itertools
import math
import unittest
from fractions import Fraction

from heightgames.games import Game
from heightgames.heights import height
from heightgames.rows import row_sum
from heightgames.squares import ring_of, sums
from heightgames.ties import Ties
from heightgames.weights import (
    against_weights, groups, is_against_weights, is_weighted, links, weighted_height, weights,
)
from tests.reference import moves
from tests.samples import (
    CHOOSERS, GREAT, PLAIN, SIZES, SOME_SIZES, Checks, any_game, drawing, flee, lone, meet, not_numbers, odd_values,
    shape_of, side_by_side, small_and_great_games, standings_of, steep_game, tied_game, weighted_game, with_extras,
)
from tests.test_squares import wanted_squares, wanted_sums

LEAN = Game(PLAIN, {("l", "l"): (2, 6), ("l", "r"): (0, 0), ("r", "l"): (0, 0), ("r", "r"): (1, 3)})


def pair_of(square):
    return tuple(square[1:3])


def link_sums(game):
    """The sums of all squares, without (0, 0), by pairs."""
    found = {}
    for square in wanted_squares(tuple(len(game.ways(chooser)) for chooser in game.choosers())):
        total = wanted_sums(game, square)
        if total != (0, 0):
            found.setdefault(pair_of(square), []).append(total)
    return found


def wanted_groups(choosers, pairs):
    """The groups, by drawing together again and again."""
    lots = [{chooser} for chooser in choosers]
    for pair in pairs:
        together = [lot for lot in lots if lot & set(pair)]
        lots = [lot for lot in lots if not lot & set(pair)] + [set().union(*together)]
    return sorted(sorted(lot) for lot in lots)


def ratio(total):
    """How many times the weight of one that of other is, if weights bear the sums; all numbers are not 0."""
    return Fraction(-total[0], total[1])


def bears(pairs, totals):
    """Whether some positive weights bear the sums, none of them 0, of pairs that join all their choosers."""
    if any(ratio(total) < 0 for total in totals):
        return False
    found = {pairs[0][0]: Fraction(1)}
    for _ in range(4):
        for (one, other), total in zip(pairs, totals):
            if one in found:
                found.setdefault(other, found[one] * ratio(total))
            elif other in found:
                found[one] = found[other] / ratio(total)
    return all(found[one] * total[0] + found[other] * total[1] == 0 for (one, other), total in zip(pairs, totals))


def is_alone_against(total):
    x, y = total
    return (x == 0) != (y == 0) or (x > 0 and y > 0) or (x < 0 and y < 0)


def is_against(pairs, totals):
    """What is_against_weights is to tell of squares of these pairs with these sums."""
    if len(totals) == 1:
        return is_alone_against(totals[0])
    if 0 in [number for total in totals for number in total]:
        return False
    if len(totals) == 2:
        return pairs[0] == pairs[1] and ratio(totals[0]) != ratio(totals[1])
    choosers = sorted({name for pair in pairs for name in pair})
    if len(totals) == 3:
        return sorted(pairs) == list(itertools.combinations(choosers, 2)) and not bears(pairs, totals)
    if len(totals) == 4:
        twice = [sum(name in pair for pair in pairs) for name in choosers] == [2, 2, 2, 2]
        return twice and len(set(pairs)) == 4 and not bears(pairs, totals)
    return False


def least_against(game):
    """The least number of squares against all weights, or None, by all ratios of each pair."""
    table = link_sums(game)
    if any(is_alone_against(total) for pair in table for total in table[pair]):
        return 1
    ratios = {pair: sorted({ratio(total) for total in table[pair]}) for pair in table}
    if any(len(ratios[pair]) > 1 for pair in table):
        return 2
    for many in (3, 4):
        for pairs in itertools.combinations(table, many):
            if is_against(pairs, [table[pair][0] for pair in pairs]):
                return many
    return None


def ratio_game(sizes, factors):
    """A game made of ties that ask for given ratios of weights: a tuple of two factors for some pairs."""
    shape = shape_of(sizes)
    tables = {}
    for (at, by), (one, other) in factors.items():
        pair = (CHOOSERS[at], CHOOSERS[by])
        tables[pair] = {}
        for first, second in itertools.product(shape[pair[0]], shape[pair[1]]):
            common = (shape[pair[0]].index(first) + 2) * (shape[pair[1]].index(second) + 3)
            tables[pair][(first, second)] = (one * common, other * common)
    return Ties(shape, tables).game()


def two_square_game(draw, bound):
    """A game of two choosers whose squares have sums of unlike signs, each."""
    tall = {0: 0, 1: draw.randint(1, bound), 2: draw.randint(bound + 1, 2 * bound + 1)}
    deep = {0: 0, 1: -draw.randint(1, bound), 2: -draw.randint(bound + 1, 2 * bound + 1)}
    shape = shape_of((2, 3))
    gains = {}
    for first, second in itertools.product(range(2), range(3)):
        standing = (shape["ann"][first], shape["bob"][second])
        gains[standing] = (tall[second] if first else 0, -deep[second] if first else 0)
    return with_extras(draw, Game(shape, gains), bound)


class Weights(Checks):
    def check(self, game):
        """Check all that is told of the weights of a game; return how many squares are against them."""
        table = link_sums(game)
        self.exact(self.unchanged(links, game), sorted(table))
        wanted = wanted_groups(game.choosers(), table)
        self.exact(self.unchanged(groups, game), wanted)
        found, heights, against = self.unchanged(weights, game), weighted_height(game), against_weights(game)
        many = least_against(game)
        self.assertIs(found is None, many is not None)
        self.assertIs(heights is None, many is not None)
        self.assertIs(against is None, many is None)
        if many is None:
            self.check_weights(game, wanted, found, heights)
        else:
            self.check_against(game, against, many)
        return many

    def check_weights(self, game, wanted, found, heights):
        self.exact(list(found), game.choosers())
        for group in wanted:
            self.assertEqual(math.gcd(*[found[chooser] for chooser in group]), 1)
            self.assertTrue(all(found[chooser] > 0 for chooser in group))
        self.exact(list(heights), game.standings())
        self.exact(heights[game.standings()[0]], 0)
        for standing, (chooser, _), goal, own in moves(game):
            self.assertEqual(heights[goal] - heights[standing], found[chooser] * own)
        self.truth(is_weighted(game, found, heights), True)
        # The greatest standings are rests.
        top = max(heights.values())
        for standing, _, _, own in moves(game):
            self.assertTrue(heights[standing] < top or own <= 0)

    def check_against(self, game, against, many):
        self.assertEqual(len(against), many)
        self.exact(against, sorted(against))
        self.assertTrue(is_against([pair_of(square) for square in against], [wanted_sums(game, square) for square in against]))
        for same in (against, tuple(against), against[::-1], [[list(square[0]), *square[1:]] for square in against]):
            self.truth(self.unchanged(is_against_weights, game, same), True)
        for square in against:
            less = [other for other in against if other != square]
            self.truth(is_against_weights(game, less), False)
            self.truth(is_against_weights(game, against + [square]), False)

    def test_all_shapes(self):
        draw = drawing(201)
        for sizes in SIZES[::4]:
            self.assertIs(self.check(weighted_game(draw, sizes, 99)), None)

    def test_all_kinds_of_games(self):
        draw = drawing(202)
        seen = {self.check(game) for game in small_and_great_games(draw)}
        self.assertLessEqual({None, 1}, seen)

    def test_steps_are_weights_of_one(self):
        draw = drawing(203)
        for sizes in SOME_SIZES:
            game = steep_game(draw, sizes)
            self.exact(weights(game), {chooser: 1 for chooser in game.choosers()})
            self.exact(weighted_height(game), height(game))

    def test_two_squares_of_a_pair(self):
        draw = drawing(204)
        seen = [self.check(two_square_game(draw, bound)) for bound in (1, 2, 5, 9, GREAT) for _ in range(5)]
        self.assertEqual({None, 2}, set(seen))
        self.assertGreater(seen.count(2), 9)

    def test_rounds(self):
        draw = drawing(205)
        three = {(0, 1): (1, 2), (1, 2): (1, 3), (0, 2): (1, 6)}
        self.assertIs(self.check(ratio_game((2, 2, 2), three)), None)
        self.exact(weights(ratio_game((2, 3, 2), three)), {"ann": 6, "bob": 3, "cid": 1})
        self.assertEqual(self.check(ratio_game((2, 3, 2), {**three, (0, 2): (1, 5)})), 3)
        self.assertEqual(self.check(ratio_game((2, 2, 2), {**three, (0, 1): (2, 1)})), 3)
        for away in (0, 1, 2, 3):
            seats = [at for at in range(4) if at != away]
            pairs = list(itertools.combinations(seats, 2))
            for factors, many in (((1, 2), (1, 6), (1, 3)), None), (((1, 2), (1, 6), (1, 2)), 3):
                game = ratio_game((2, 2, 2, 2), dict(zip(pairs, factors)))
                self.assertEqual(self.check(game), many)
                self.assertEqual(self.check(with_extras(draw, game, GREAT)), many)

    def test_rounds_of_four(self):
        draw = drawing(206)
        cycles = [((0, 1), (1, 2), (2, 3), (0, 3)), ((0, 1), (1, 3), (2, 3), (0, 2)), ((0, 2), (1, 2), (1, 3), (0, 3))]
        for cycle in cycles:
            numbers = [draw.randint(1, 9) for _ in range(4)]
            even = {pair: (numbers[pair[1]], numbers[pair[0]]) for pair in cycle}
            for factor, many in ((1, None), (7, 4)):
                uneven = {**even, cycle[2]: (even[cycle[2]][0] * factor, even[cycle[2]][1])}
                for sizes in ((2, 2, 2, 2), (3, 2, 2, 3)):
                    game = ratio_game(sizes, uneven)
                    self.assertEqual(self.check(game), many)
                    self.assertEqual(self.check(with_extras(draw, game)), many)
            # With one pair more there is a round of three.
            more = {**{pair: (1, 1) for pair in itertools.combinations(range(4), 2)}, cycle[0]: (1, 7)}
            self.assertEqual(self.check(ratio_game((2, 2, 2, 2), more)), 3)

    def test_threes_are_looked_for_ahead_of_fours(self):
        # Four choosers go round without one pair, so one round of three is against weights if the one of four is.
        for away in itertools.combinations(range(4), 2):
            pairs = [pair for pair in itertools.combinations(range(4), 2) if pair != away]
            for bent in pairs:
                if not set(bent) & set(away):
                    continue
                factors = {pair: (1, 3) if pair == bent else (1, 1) for pair in pairs}
                self.assertEqual(self.check(ratio_game((2, 2, 2, 2), factors)), 3)

    def test_a_round_whose_squares_are_not_in_the_order_of_its_pairs(self):
        # Ann and Bob are linked only where Cid takes its second way; Dora asks both for unlike weights.
        shape = shape_of((2, 2, 2, 2))
        gains = {}
        for standing in standings_of(shape):
            ann, bob, cid, dora = [shape[chooser].index(way) for chooser, way in zip(CHOOSERS, standing)]
            all_three = ann * bob * cid
            gains[standing] = (all_three + ann * dora, all_three + 2 * bob * dora, all_three, ann * dora + bob * dora)
        game = Game(shape, gains)
        self.assertEqual(self.check(game), 3)
        self.exact([square[1:3] for square in against_weights(game)], [("ann", "dora"), ("bob", "dora"), ("ann", "bob")])

    def test_ties_with_and_without_extras(self):
        draw = drawing(207)
        seen = set()
        for sizes in ((2, 2), (3, 3), (2, 2, 2), (3, 2, 4), (2, 2, 2, 2), (3, 3, 3, 3)):
            for pairs in (1, 2, 3, 6):
                game = tied_game(draw, sizes, 9, pairs)
                many = self.check(game)
                extra = with_extras(draw, game, GREAT)
                self.assertEqual(self.check(extra), many)
                self.exact(weights(extra), weights(game))
                self.exact(links(extra), links(game))
                seen.add(many)
        self.assertLessEqual({None, 1}, seen)

    def test_side_by_side(self):
        draw = drawing(208)
        for sizes in ((2, 2), (3, 3), (2, 3)):
            one, other = weighted_game(draw, sizes, 99), weighted_game(draw, (3, 2), 99)
            both = side_by_side(one, other)
            self.check(both)
            self.exact(list(weights(both).values()), list(weights(one).values()) + list(weights(other).values()))
            heights = [mine + yours for mine in weighted_height(one).values() for yours in weighted_height(other).values()]
            self.exact(list(weighted_height(both).values()), heights)
            self.exact(groups(both)[:len(groups(one))], groups(one))
            self.assertEqual(self.check(side_by_side(one, flee())), 1)

    def test_groups_apart(self):
        # Each group has the least weights by itself, so their product may not come out of one number.
        game = side_by_side(ratio_game((2, 2), {(0, 1): (2, 4)}), ratio_game((2, 2), {(0, 1): (9, 6)}))
        self.exact(weights(game), {"ann": 2, "bob": 1, "cid": 2, "dora": 3})
        self.exact(groups(game), [["ann", "bob"], ["cid", "dora"]])
        chain = ratio_game((2, 2, 2, 2), {(0, 3): (2, 3), (1, 2): (5, 1)})
        self.exact(links(chain), [("ann", "dora"), ("bob", "cid")])
        self.exact(groups(chain), [["ann", "dora"], ["bob", "cid"]])
        self.exact(weights(chain), {"ann": 3, "bob": 1, "cid": 5, "dora": 2})
        path = ratio_game((2, 2, 2, 2), {(0, 2): (4, 3), (2, 3): (1, 5)})
        self.exact(groups(path), [["ann", "cid", "dora"], ["bob"]])
        self.exact(weights(path), {"ann": 15, "bob": 1, "cid": 20, "dora": 4})

    def test_edges(self):
        for game in (lone(), Game({"a": ["l"]}, {("l",): [7]}), any_game(drawing(209), (4,), GREAT), any_game(drawing(209), (1, 4)),
                     any_game(drawing(209), (1, 1, 1, 1)), any_game(drawing(209), (1, 4, 1))):
            self.assertIs(self.check(game), None)
            self.exact(weights(game), {chooser: 1 for chooser in game.choosers()})
            self.exact(groups(game), [[chooser] for chooser in game.choosers()])
            self.exact(links(game), [])
            self.exact(weighted_height(game), height(game))

    def test_the_document(self):
        self.exact(weights(LEAN), {"a": 3, "b": 1})
        self.exact(weighted_height(LEAN)[("r", "r")], -3)
        self.exact(against_weights(flee()), [(("l", "l"), "a", "b", "r", "r")])
        self.exact(weights(meet()), {"a": 1, "b": 1})
        self.exact(links(flee()), [("a", "b")])

    def test_what_is_returned_is_new(self):
        for game in (LEAN, flee(), meet()):
            for call in (links, groups, weights, weighted_height, against_weights):
                self.new_each_time(call, game)


class IsWeighted(Checks):
    def test_other_weights_and_heights(self):
        draw = drawing(211)
        for sizes in SOME_SIZES:
            game = weighted_game(draw, sizes, draw.choice((9, GREAT)))
            numbers, heights = weights(game), weighted_height(game)
            for number in (1, -1, GREAT):
                self.truth(is_weighted(game, numbers, {place: heights[place] + number for place in reversed(heights)}), True)
            for factor in (2, 10 ** 9):
                greater = {chooser: numbers[chooser] * factor for chooser in reversed(numbers)}
                tall = {place: heights[place] * factor for place in heights}
                self.truth(self.unchanged(is_weighted, game, greater, tall), True)
                self.truth(is_weighted(game, numbers, tall), tall == heights)
                self.truth(is_weighted(game, greater, heights), tall == heights)
            for place in draw.sample(game.standings(), min(3, len(game))):
                bent = {**heights, place: heights[place] + draw.choice((-1, 1))}
                self.truth(is_weighted(game, numbers, bent), len(game) == 1)
            self.truth(is_weighted(any_game(draw, (3, 3)), {"ann": 1, "bob": 1}, {}), False)

    def test_wrong_numbers_and_heights(self):
        numbers, heights = weights(LEAN), weighted_height(LEAN)
        self.truth(is_weighted(LEAN, numbers, heights), True)
        for thing in not_numbers(heights) + odd_values() + [numbers]:
            self.truth(is_weighted(LEAN, numbers, thing), False)
        zero = LEAN.times(0)
        nothing = {place: 0 for place in zero}
        self.truth(is_weighted(zero, {"a": 5, "b": 1}, nothing), True)
        for thing in odd_values() + [{"a": 1}, {"b": 1}, {"a": 1, "b": 1, "c": 1}, {"a": 1, "c": 1}, {"a": 1, "b": 0}, {"a": 0, "b": 0},
                                     {"a": -3, "b": -1}, {"a": 3, "b": -1}, {"a": True, "b": True}, {"a": 1, "b": True}, {"a": 1, "b": "1"},
                                     {"a": 1, "b": [1]}, {"a": 1, "b": None}, [("a", 1), ("b", 1)], ["a", "b"], (1, 1), [1, 1],
                                     {("a",): 1, ("b",): 1}, {"a": 1, 1: 1}, {"a": 1, "b": meet()}, heights, {0: 1, 1: 1}]:
            self.truth(is_weighted(zero, thing, nothing), False)
            self.truth(is_weighted(LEAN, thing, heights), False)
        for value in odd_values():
            if value.__class__ is not int or value <= 0:
                self.truth(is_weighted(zero, {"a": value, "b": 1}, nothing), False)
                self.truth(is_weighted(zero, {"a": 1, "b": value}, nothing), False)
        self.truth(is_weighted(flee(), {"a": 1, "b": 1}, nothing), False)
        self.truth(is_weighted(lone(), {"c": 9}, {("u",): 0, ("v",): 9}), True)
        self.truth(is_weighted(lone(), {"c": 9}, {("u",): 0, ("v",): 1}), False)


class IsAgainstWeights(Checks):
    def test_lists_of_squares(self):
        draw = drawing(221)
        seen = set()
        for sizes in ((2, 2), (2, 3), (3, 3), (2, 2, 2), (3, 2, 2), (2, 2, 2, 2), (3, 2, 1, 2)):
            makers = (any_game, weighted_game, tied_game)
            for game in [make(draw, sizes, bound) for make in makers for bound in (1, 2, 9)]:
                squares = wanted_squares(sizes)
                for many in (1, 2, 3, 4, 5):
                    for _ in range(12):
                        self.check(game, [draw.choice(squares) for _ in range(many)], seen)
        self.assertEqual(seen, {(1, True), (1, False), (2, True), (2, False), (3, True), (3, False), (4, True), (4, False), (5, False)})

    def check(self, game, chosen, seen):
        pairs = [pair_of(square) for square in chosen]
        wanted = is_against(pairs, [wanted_sums(game, square) for square in chosen])
        self.truth(is_against_weights(game, chosen), wanted)
        self.truth(is_against_weights(game, tuple(reversed(chosen))), wanted)
        seen.add((len(chosen), wanted))

    def test_rounds_of_squares(self):
        draw = drawing(222)
        pairs = list(itertools.combinations(range(4), 2))
        seen = set()
        for _ in range(30):
            factors = {pair: (draw.choice((1, 1, 2)), draw.choice((1, 1, 1, -1, 2))) for pair in pairs}
            game = ratio_game((2, 2, 2, 2), factors)
            squares = {pair_of(square): square for square in wanted_squares((2, 2, 2, 2))}
            for many in (3, 4, 5, 6):
                for chosen in itertools.combinations(squares.values(), many):
                    shuffled = draw.sample(chosen, many)
                    wanted = is_against([pair_of(square) for square in shuffled], [wanted_sums(game, square) for square in shuffled])
                    self.truth(is_against_weights(game, shuffled), wanted)
                    seen.add((many, wanted))
        self.assertEqual(seen, {(3, True), (3, False), (4, True), (4, False), (5, False), (6, False)})

    def test_sums_of_a_square(self):
        for x, y in itertools.product((-2, -1, 0, 1, 3), repeat=2):
            game = Game(PLAIN, {("l", "l"): (0, 0), ("l", "r"): (0, 0), ("r", "l"): (x, 0), ("r", "r"): (0, y)})
            square = (("l", "l"), "a", "b", "r", "r")
            self.exact(sums(game, square), (x, y))
            self.assertEqual(row_sum(game, ring_of(game, square)), x + y)
            wanted = (x, y) != (0, 0) and not (x < 0 < y or y < 0 < x)
            self.truth(is_against_weights(game, [square]), wanted)
            self.exact(against_weights(game), [square] if wanted else None)
            self.exact(links(game), [("a", "b")] if (x, y) != (0, 0) else [])
            self.exact(weights(game), None if wanted else {"a": abs(y) // math.gcd(x, y), "b": abs(x) // math.gcd(x, y)} if x else {"a": 1, "b": 1})

    def test_what_is_no_list_of_squares(self):
        game = flee()
        square = (("l", "l"), "a", "b", "r", "r")
        self.truth(is_against_weights(game, [square]), True)
        bad = [square, list(square), {square: 1}, {0: square}, frozenset([square]), [square, None], [None, square], [square, square],
               [square, square, square], [[square]], [square[:4]], [square + ("r",)], [(("r", "r"), "a", "b", "r", "r")],
               [(("l", "l"), "b", "a", "r", "r")], [(("l", "l"), "a", "b", "r", {})], [({"l": 1, "r": 2}, "a", "b", "r", "r")],
               [[{}, "a", "b", "r", "r"]], [square] * 2000, ([square],), [(square, 1)]]
        for thing in odd_values() + bad:
            self.truth(is_against_weights(game, thing), False)
            self.truth(is_against_weights(meet(), thing), False)
        self.truth(is_against_weights(meet(), [square]), False)
        self.truth(is_against_weights(lone(), [(("u",), "c", "c", "v", "v")]), False)


if __name__ == "__main__":
    unittest.main()
