"""Squares: four changes of two choosers, there and back."""

from heightgames.errors import NoSquare
from heightgames.kinds import are_names, is_name
from heightgames.places import seats
from heightgames.shapes import put


def squares(game):
    """Return the ascending list of all squares."""
    return [square for standing in game for square in squares_at(game, standing)]


def squares_at(game, standing):
    """Return the ascending list of the squares of a standing."""
    # Changes are ascending, so squares made of them in this order are so too.
    upward = [change for change in game.changes(standing) if change[1] > standing[game.seat(change[0])]]
    pairs = [(one, other) for one in game.choosers() for other in game.choosers() if one < other]
    return [(standing, one, other, first, second) for one, other in pairs
            for chooser, first in upward if chooser == one
            for partner, second in upward if partner == other]


def is_square(game, thing):
    """Return whether any value is a square of a game."""
    if not isinstance(thing, (tuple, list)) or len(thing) != 5:
        return False
    if not are_names(thing[0]) or not all([is_name(item) for item in thing[1:]]):
        return False
    standing, one, other, first, second = thing
    if tuple(standing) not in game or not one < other:
        return False
    return is_upward(game, standing, one, first) and is_upward(game, standing, other, second)


def is_upward(game, standing, chooser, way):
    """Return whether a name is a chooser, and another a way of it that is greater than at a standing."""
    if not game.has_chooser(chooser):
        return False
    return way in game.ways(chooser) and way > standing[game.seat(chooser)]


def ring_of(game, square):
    """Return the ring of a square."""
    if not is_square(game, square):
        raise NoSquare(square)
    standing, one, other, first, second = square
    back = standing[game.seat(one)]
    home = standing[game.seat(other)]
    return (tuple(standing), [(one, first), (other, second), (one, back), (other, home)])


def sums(game, square):
    """Return the tuple of the two sums of a square."""
    if not is_square(game, square):
        raise NoSquare(square)
    standing, one, other, first, second = square
    start = tuple(standing)
    beside = put(start, game.seat(one), first)
    above = put(start, game.seat(other), second)
    across = put(beside, game.seat(other), second)
    of_one = game.gain(one, beside) - game.gain(one, start) + game.gain(one, above) - game.gain(one, across)
    of_other = game.gain(other, across) - game.gain(other, beside) + game.gain(other, start) - game.gain(other, above)
    return (of_one, of_other)


def crossings(game):
    """Return the ascending dict from the pairs of choosers to the lists of the crossings of their squares.

    A crossing is a tuple (corner, across, x, y): the place of the standing of a square, that behind
    the first two changes of its ring, and its sums.
    """
    along = seats(game)
    names = game.choosers()
    found = {}
    for at, one in enumerate(names):
        for other_at in range(at + 1, len(names)):
            found[(one, names[other_at])] = crossings_of(along[at], along[other_at])
    return found


def crossings_of(seat, other_seat):
    """Return the list of the crossings of two choosers."""
    gains, lines = seat
    other_gains, other_lines = other_seat
    # Lines of the one that begin where lines of the other begin give grids: rows by the ways of the one.
    rows = {line[0]: line for line in other_lines}
    grids = [[rows[place] for place in line] for line in lines if line[0] in rows]
    found = []
    for grid in grids:
        for at, row in enumerate(grid):
            for later in grid[at + 1:]:
                found.extend(crossings_between(row, later, gains, other_gains))
    return found


def crossings_between(row, later, gains, other_gains):
    """Return the list of the crossings of two rows of a grid."""
    of_one = [gains[goal] - gains[place] for place, goal in zip(row, later)]
    of_other = [other_gains[goal] - other_gains[place] for place, goal in zip(row, later)]
    return [(row[low], later[high], of_one[low] - of_one[high], of_other[high] - of_other[low])
            for low in range(len(row)) for high in range(low + 1, len(row))]


def square_across(game, pair, corner, across):
    """Return the square of a pair that has two places at its corner and across."""
    one, other = pair
    goal = game.standing_list[across]
    return (game.standing_list[corner], one, other, goal[game.seat(one)], goal[game.seat(other)])


def bad_square(game):
    """Return the least square whose sums do not add up to 0, or None."""
    table = crossings(game)
    bad = [(corner, pair, across) for pair in table for corner, across, x, y in table[pair] if x + y != 0]
    if not bad:
        return None
    corner, pair, across = min(bad)
    return square_across(game, pair, corner, across)


def bad_pairs(game):
    """Return the ascending list of the pairs of choosers that have a bad square."""
    table = crossings(game)
    return [pair for pair in table if any([x + y != 0 for corner, across, x, y in table[pair]])]
