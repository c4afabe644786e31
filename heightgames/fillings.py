"""Fillings of rings by squares, for all gains at once."""

from heightgames.errors import NoRing
from heightgames.kinds import is_integer
from heightgames.rows import is_ring, walked
from heightgames.shapes import put
from heightgames.squares import is_square, ring_of


def account(game, row):
    """Return how often the gain of each chooser at each standing is taken in the sum of a row."""
    return totals(takings(game, row))


def takings(game, row):
    """Return the list of the tuples ((chooser, standing), 1 or -1) of a row, two for each change."""
    places = walked(game, row)
    taken = []
    for at, change in enumerate(row[1]):
        taken.append(((change[0], places[at + 1]), 1))
        taken.append(((change[0], places[at]), -1))
    return taken


def totals(taken):
    """Return the ascending dict of the sums of what was taken, without noughts."""
    found = {}
    for key, number in taken:
        found[key] = found.get(key, 0) + number
    return {key: found[key] for key in sorted(found) if found[key] != 0}


def filled(game, ring):
    """Return a filling of a ring."""
    if not is_ring(game, ring):
        raise NoRing(ring)
    # Each two neighbours that change places cost one square. Once the changes are in the order
    # of the choosers, those of each chooser lead along one line and back: nothing is left to fill.
    swaps = []
    ordered = []
    places = [tuple(ring[0])]
    for chooser, way in ring[1]:
        at = len(ordered)
        while at > 0 and ordered[at - 1][0] > chooser:
            at -= 1
            swaps.append(swapped(game, places[at], ordered[at], (chooser, way)))
        ordered.insert(at, (chooser, way))
        places = places[:at + 1] + [put(place, game.seat(chooser), way) for place in places[at:]]
    needed = totals(swaps)
    return [(square, 1 if needed[square] > 0 else -1) for square in needed for again in range(abs(needed[square]))]


def swapped(game, standing, sooner, later):
    """Return the tuple (square, sign) by which a row is more with sooner before later than after it.

    The chooser of sooner is greater than that of later.
    """
    one, first = later
    other, second = sooner
    here = standing[game.seat(one)]
    there = standing[game.seat(other)]
    low = {one: min(here, first), other: min(there, second)}
    corner = tuple([low.get(chooser, way) for chooser, way in zip(game.choosers(), standing)])
    square = (corner, one, other, max(here, first), max(there, second))
    return (square, -1 if (here < first) == (there < second) else 1)


def is_filling(game, ring, thing):
    """Return whether any value is a filling of a ring."""
    if not is_ring(game, ring):
        raise NoRing(ring)
    if not isinstance(thing, (list, tuple)) or not all([is_signed(game, item) for item in thing]):
        return False
    # Squares that stand there several times are counted first, so that each ring is walked once.
    needed = totals([((tuple(square[0]), *square[1:]), sign) for square, sign in thing])
    taken = [(key, number * needed[square]) for square in needed
             for key, number in takings(game, ring_of(game, square))]
    return totals(taken) == account(game, ring)


def is_signed(game, thing):
    """Return whether any value is a tuple or list of a square and a sign."""
    if not isinstance(thing, (tuple, list)) or len(thing) != 2 or not is_square(game, thing[0]):
        return False
    return is_integer(thing[1]) and thing[1] in (1, -1)
