"""How far a game is from a height, and above which own gains betterings end."""

from heightgames.graphs import ranks, shortest_ring
from heightgames.places import by_places, by_standings, over, row_through, seats
from heightgames.rows import is_ring, row_sum
from heightgames.shapes import are_numbers, lowest


def far(game):
    """Return the greatest mean of a ring as an amount."""
    return searched(game)[0]


def far_ring(game):
    """Return a ring whose mean is the greatest one, or None if that is 0."""
    ring = searched(game)[1]
    return None if ring is None else row_through(game, ring)


def near_height(game):
    """Return a dict from all standings to numbers that rise by as much as the own gains, but for far."""
    numbers = searched(game)[2]
    return by_standings(game, [number - numbers[0] for number in numbers])


def searched(game):
    """Return the greatest mean of a ring, such a ring through places, or None, and numbers by places.

    The numbers are those of which near_height tells, any at the least standing.
    """
    amount = (0, 1)
    ring = None
    while True:
        better_ring, numbers = settled(game, amount)
        if better_ring is None:
            return (amount, ring, numbers)
        ring = better_ring
        amount = mean(game, ring)


def mean(game, ring):
    """Return the mean of a ring through places as an amount."""
    return lowest(row_sum(game, row_through(game, ring)), len(ring) - 1)


def settled(game, amount):
    """Return a ring through places of a greater mean than an amount, or None, and numbers by places.

    The numbers rise by as much as the own gains, but for the amount, if there is no such ring.
    """
    top, bottom = amount
    along = [([bottom * gain for gain in gains], lines) for gains, lines in seats(game)]
    numbers = [0] * len(game)
    sources = [None] * len(game)
    changed = True
    while changed:
        changed = False
        for gains, lines in along:
            for line in lines:
                if lift(numbers, sources, gains, line, top):
                    changed = True
        ring = ring_of_sources(sources) if changed else None
        if ring is not None:
            return (ring, numbers)
    return (None, numbers)


def lift(numbers, sources, gains, line, top):
    """Raise numbers along a line as far as gains ask, less top, note whence, and return whether there are any."""
    extras = [numbers[place] - gains[place] for place in line]
    most = max(extras)
    if most - min(extras) <= top:
        return False
    source = line[extras.index(most)]
    for place, extra in zip(line, extras):
        if most - extra > top:
            numbers[place] = gains[place] + most - top
            sources[place] = source
    return True


def ring_of_sources(sources):
    """Return a ring, the first place again at its end, that leads from sources to those they are of, or None."""
    # Numbers were raised all along such a ring, so its mean is greater than the amount that they were raised for.
    seen = [None] * len(sources)
    for start in range(len(sources)):
        place = start
        while place is not None and seen[place] is None:
            seen[place] = start
            place = sources[place]
        if place is not None and seen[place] == start:
            ring = [place, sources[place]]
            while ring[-1] != place:
                ring.append(sources[ring[-1]])
            return ring[::-1]
    return None


def is_far(game, amount, thing):
    """Return whether any value is a ring whose mean is at least an amount."""
    if not is_ring(game, thing):
        return False
    return row_sum(game, thing) * amount[1] >= amount[0] * len(thing[1])


def is_near(game, amount, thing):
    """Return whether any value is a dict of numbers that rise by as much as the own gains, but for an amount."""
    if not are_numbers(thing, game.standings()):
        return False
    top, bottom = amount
    numbers = by_places(game, thing)
    for gains, lines in seats(game):
        for line in lines:
            extras = [numbers[place] - bottom * gains[place] for place in line]
            if max(extras) - min(extras) > top:
                return False
    return True


def calm(game):
    """Return the least integer from 0 on such that no ring has only betterings of a greater own gain."""
    numbers = own_gains(game)
    low, high = 0, len(numbers) - 1
    while low < high:
        middle = (low + high) // 2
        if None in ranks(over(game, numbers[middle])):
            low = middle + 1
        else:
            high = middle
    return numbers[low]


def own_gains(game):
    """Return the ascending list of 0 and all own gains of betterings."""
    found = {0: True}
    for gains, lines in seats(game):
        for line in lines:
            for place in line:
                for goal in line:
                    if gains[goal] > gains[place]:
                        found[gains[goal] - gains[place]] = True
    return sorted(found)


def calm_ring(game):
    """Return a ring of betterings whose own gains are all at least calm, or None if that is 0."""
    number = calm(game)
    if number == 0:
        return None
    nexts = over(game, number - 1)
    return row_through(game, shortest_ring(nexts, nexts))


def over_ranks(game, number):
    """Return the most changes of a row of betterings of a greater own gain that leads there, or None for a ring."""
    found = ranks(over(game, number))
    return None if None in found else by_standings(game, found)
