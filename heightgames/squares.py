"""Squares: four changes of two choosers, there and back."""

from heightgames.errors import NoSquare
from heightgames.kinds import are_names, is_name
from heightgames.shapes import put


def squares(game):
    """Return the ascending list of all squares."""
    return [square for standing in game for square in squares_at(game, standing)]


def squares_at(game, standing):
    """Return the ascending list of the squares of a standing."""
    # Changes are ascending, so squares made of them in this order are so too.
    upward = [change for change in game.changes(standing) if change[1] > standing[game.seat(change[0])]]
    pairs = [(one, other) for one in game.choosers() for other in game.choosers() if one < other]
    return [(standing, one, other, first, second) for one, other in pairs
            for chooser, first in upward if chooser == one
            for partner, second in upward if partner == other]


def is_square(game, thing):
    """Return whether any value is a square of a game."""
    if not isinstance(thing, (tuple, list)) or len(thing) != 5:
        return False
    if not are_names(thing[0]) or not all([is_name(item) for item in thing[1:]]):
        return False
    standing, one, other, first, second = thing
    if tuple(standing) not in game or not one < other:
        return False
    return is_upward(game, standing, one, first) and is_upward(game, standing, other, second)


def is_upward(game, standing, chooser, way):
    """Return whether a name is a chooser, and another a way of it that is greater than at a standing."""
    if not game.has_chooser(chooser):
        return False
    return way in game.ways(chooser) and way > standing[game.seat(chooser)]


def ring_of(game, square):
    """Return the ring of a square."""
    if not is_square(game, square):
        raise NoSquare(square)
    standing, one, other, first, second = square
    back = standing[game.seat(one)]
    home = standing[game.seat(other)]
    return (tuple(standing), [(one, first), (other, second), (one, back), (other, home)])


def sums(game, square):
    """Return the tuple of the two sums of a square."""
    if not is_square(game, square):
        raise NoSquare(square)
    standing, one, other, first, second = square
    start = tuple(standing)
    beside = put(start, game.seat(one), first)
    above = put(start, game.seat(other), second)
    across = put(beside, game.seat(other), second)
    of_one = game.gain(one, beside) - game.gain(one, start) + game.gain(one, above) - game.gain(one, across)
    of_other = game.gain(other, across) - game.gain(other, beside) + game.gain(other, start) - game.gain(other, above)
    return (of_one, of_other)


def bad_square(game):
    """Return the least square whose sums do not add up to 0, or None."""
    for square in squares(game):
        if is_bad(game, square):
            return square
    return None


def bad_pairs(game):
    """Return the ascending list of the pairs of choosers that have a bad square."""
    return sorted({(square[1], square[2]) for square in squares(game) if is_bad(game, square)})


def is_bad(game, square):
    """Return whether the sums of a square do not add up to 0."""
    of_one, of_other = sums(game, square)
    return of_one + of_other != 0
