"""Heights by weights."""

from heightgames.games import Game
from heightgames.graphs import clusters
from heightgames.heights import height, is_height
from heightgames.shapes import are_numbers, divisor
from heightgames.squares import crossings, is_square, square_across, sums


def links(game):
    """Return the ascending list of the pairs of choosers that are linked."""
    return list(linking(game))


def linking(game):
    """Return the ascending dict from the pairs that are linked to their crossings whose sums are not (0, 0)."""
    table = crossings(game)
    found = {}
    for pair in table:
        marks = [mark for mark in table[pair] if mark[2] != 0 or mark[3] != 0]
        if marks:
            found[pair] = marks
    return found


def groups(game):
    """Return the list of the groups of choosers that are linked to one another."""
    return groups_by(game, links(game))


def groups_by(game, pairs):
    """Return the list of the groups of choosers whom pairs join, each ascending, by their first choosers."""
    nexts = [[] for chooser in game.choosers()]
    for one, other in pairs:
        nexts[game.seat(one)].append(game.seat(other))
        nexts[game.seat(other)].append(game.seat(one))
    return [[game.choosers()[at] for at in cluster] for cluster in clusters(nexts)]


def weights(game):
    """Return the least weights with which a game has a height by weights, or None."""
    table = linking(game)
    if against(game, table) is not None:
        return None
    # Nothing is against weights, so all squares of a pair ask for the same weights.
    samples = {pair: table[pair][0][2:] for pair in table}
    found = {}
    for group in groups_by(game, list(table)):
        found.update(least_weights(group, {pair: samples[pair] for pair in samples if pair[0] in group}))
    return {chooser: found[chooser] for chooser in sorted(found)}


def least_weights(group, pair_sums):
    """Return the least weights of linked choosers that bear the sums, none of them 0, of their pairs, or None."""
    found = {group[0]: 1}
    while len(found) < len(group):
        for one, other in pair_sums:
            x, y = pair_sums[(one, other)]
            if one in found and other not in found:
                found = with_partner(found, one, abs(x), other, abs(y))
            elif other in found and one not in found:
                found = with_partner(found, other, abs(y), one, abs(x))
    for one, other in pair_sums:
        x, y = pair_sums[(one, other)]
        if found[one] * x + found[other] * y != 0:
            return None
    common = 0
    for chooser in found:
        common = divisor(found[chooser], common)
    return {chooser: found[chooser] // common for chooser in found}


def with_partner(numbers, chooser, share, partner, other_share):
    """Return all numbers times one and the same, and that of a partner, such that both shares weigh the same."""
    found = {name: numbers[name] * other_share for name in numbers}
    found[partner] = numbers[chooser] * share
    return found


def weighted_height(game):
    """Return the height by the least weights that is 0 at the least standing, or None."""
    numbers = weights(game)
    return None if numbers is None else height(weighted(game, numbers))


def weighted(game, numbers):
    """Return the Game in which each chooser gains its number times as much."""
    factors = [numbers[chooser] for chooser in game.choosers()]
    table = {standing: [factor * gain for factor, gain in zip(factors, game.gains(standing))] for standing in game}
    return Game(game.shape(), table)


def is_weighted(game, numbers, thing):
    """Return whether any value is a height by weights of a game with any value as these weights."""
    if not are_numbers(numbers, game.choosers()) or not all([number > 0 for number in numbers.values()]):
        return False
    return is_height(weighted(game, numbers), thing)


def against_weights(game):
    """Return an ascending list of as few squares as possible against all weights, or None."""
    return against(game, linking(game))


def against(game, table):
    """Return a list of squares against all weights, or None, by what linking returned."""
    for pair in table:
        for corner, across, x, y in table[pair]:
            if is_lopsided((x, y)):
                return [square_across(game, pair, corner, across)]
    for pair in table:
        first = table[pair][0]
        for mark in table[pair]:
            if are_unlike(first[2:], mark[2:]):
                return sorted([square_across(game, pair, corner, across) for corner, across, x, y in (first, mark)])
    return round_against(game, table)


def is_lopsided(total):
    """Return whether sums, not (0, 0), are such that no weights bear them."""
    return total[0] * total[1] >= 0


def are_unlike(total, other):
    """Return whether no weights bear both of two sums of one pair, none of them 0."""
    return total[0] * other[1] != other[0] * total[1]


def round_against(game, table):
    """Return the ascending list of the squares of a round against all weights, of three if there is one, or None.

    No one square and no two squares of a pair are against all weights.
    """
    # The squares of a pair ask for the same weights, so one of them is enough.
    samples = {pair: table[pair][0] for pair in table}
    for pairs in rounds_of(table):
        if is_round_against({pair: samples[pair][2:] for pair in pairs}):
            return sorted([square_across(game, pair, samples[pair][0], samples[pair][1]) for pair in pairs])
    return None


def rounds_of(pairs):
    """Return the list of the lists of pairs that are rounds, those of three choosers first."""
    parts = [[]]
    for pair in pairs:
        parts = parts + [part + [pair] for part in parts]
    return [part for many in (3, 4) for part in parts if len(part) == many and are_round(part)]


def are_round(pairs):
    """Return whether pairs are those of a round: three or four different ones in which each chooser stands twice."""
    names = [name for pair in pairs for name in pair]
    if len(pairs) not in (3, 4) or len(set(pairs)) < len(pairs):
        return False
    return all([names.count(name) == 2 for name in names])


def is_round_against(pair_sums):
    """Return whether no weights bear the sums, none of them 0, of the pairs of a round."""
    choosers = sorted({name for pair in pair_sums for name in pair})
    return least_weights(choosers, pair_sums) is None


def is_against_weights(game, thing):
    """Return whether any value is a list or tuple of squares against all weights."""
    if not isinstance(thing, (list, tuple)) or not all([is_square(game, item) for item in thing]):
        return False
    totals = [sums(game, item) for item in thing]
    if len(thing) == 1:
        return totals[0] != (0, 0) and is_lopsided(totals[0])
    if any([0 in total for total in totals]):
        return False
    pairs = [(item[1], item[2]) for item in thing]
    if len(thing) == 2:
        return pairs[0] == pairs[1] and are_unlike(totals[0], totals[1])
    return are_round(pairs) and is_round_against(dict(zip(pairs, totals)))
