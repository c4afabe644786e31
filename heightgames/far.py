"""How far a game is from a height, and above which own gains betterings end."""

from heightgames.rows import is_ring, rises, row_sum, row_through
from heightgames.shapes import are_numbers, divisor, over, ranks, shortest_ring, singles


def far(game):
    """Return the greatest mean of a ring as an amount."""
    own = rises(game)
    if len(own) == 1:
        return (0, 1)
    totals = greatest_sums(own)
    found = (0, 1)
    for standing in own:
        mean = least_mean([total[standing] for total in totals])
        if is_less(found, mean):
            found = mean
    common = divisor(found[0], found[1])
    return (found[0] // common, found[1] // common)


def greatest_sums(own):
    """Return for 0, 1, .. changes the dict from all standings to the greatest sum of so many that lead there.

    The last one is for as many changes as there are standings, so that such a row comes through a ring.
    """
    found = [{standing: 0 for standing in own}]
    for many in range(len(own)):
        found.append({standing: max([found[many][ahead] + own[ahead][standing] for ahead in own[standing]])
                      for standing in own})
    return found


def least_mean(totals):
    """Return the least mean of what the last total has more than each other, for each change that it has more."""
    many = len(totals) - 1
    means = [(totals[-1] - total, many - fewer) for fewer, total in enumerate(totals[:-1])]
    found = means[0]
    for mean in means:
        if is_less(mean, found):
            found = mean
    return found


def is_less(amount, other):
    """Return whether a top divided by a bottom is less than another one."""
    return amount[0] * other[1] < other[0] * amount[1]


def far_ring(game):
    """Return a ring whose mean is the greatest one, or None if that is 0."""
    amount = far(game)
    if amount == (0, 1):
        return None
    own = rises(game)
    heights = near_height(game)
    # No change rises by less than its share of such a ring asks; in the ring none by more.
    tight = {standing: [goal for goal in own[standing]
                        if heights[goal] - heights[standing] == amount[1] * own[standing][goal] - amount[0]]
             for standing in own}
    return row_through(game, shortest_ring(tight, tight))


def near_height(game):
    """Return a dict from all standings to numbers that rise by as much as the own gains, but for far."""
    top, bottom = far(game)
    own = rises(game)
    found = {game.standings()[0]: 0}
    # The greatest sums of rows from the least standing, each change counting less by far: no ring adds to them.
    for turn in range(len(game)):
        for standing in game.standings()[1:]:
            found[standing] = max([found[ahead] + bottom * own[ahead][standing] - top
                                   for ahead in own[standing] if ahead in found])
    return {standing: found[standing] for standing in game}


def is_far(game, amount, thing):
    """Return whether any value is a ring whose mean is at least an amount."""
    if not is_ring(game, thing):
        return False
    return row_sum(game, thing) * amount[1] >= amount[0] * len(thing[1])


def is_near(game, amount, thing):
    """Return whether any value is a dict of numbers that rise by as much as the own gains, but for an amount."""
    if not are_numbers(thing, game):
        return False
    top, bottom = amount
    own = rises(game)
    return all([abs(thing[goal] - thing[standing] - bottom * own[standing][goal]) <= top
                for standing in own for goal in own[standing]])


def calm(game):
    """Return the least integer from 0 on such that no ring has only betterings of a greater own gain."""
    own = rises(game)
    numbers = sorted(set([0] + [number for goals in own.values() for number in goals.values() if number > 0]))
    low, high = 0, len(numbers) - 1
    while low < high:
        middle = (low + high) // 2
        if over_ranks(game, numbers[middle]) is None:
            low = middle + 1
        else:
            high = middle
    return numbers[low]


def calm_ring(game):
    """Return a ring of betterings whose own gains are all at least calm, or None if that is 0."""
    number = calm(game)
    if number == 0:
        return None
    nexts = over(rises(game), number - 1)
    return row_through(game, shortest_ring(nexts, nexts))


def over_ranks(game, number):
    """Return the most changes of a row of betterings of a greater own gain that leads there, or None for a ring."""
    nexts = over(rises(game), number)
    return ranks(nexts, singles(nexts))
