"""Heights by signs."""

from heightgames.rows import is_ring, rises, row_through, walked
from heightgames.shapes import are_numbers, joined, over, ranks, shortest_ring


def levels(game):
    """Return the list of the levels, each ascending, by their first standings."""
    own = rises(game)
    return joined({standing: [goal for goal in own[standing] if own[standing][goal] == 0] for standing in own})


def sign_height(game):
    """Return the least height by signs, or None."""
    return ranks(over(rises(game), 0), levels(game))


def is_sign_height(game, thing):
    """Return whether any value is a height by signs of a game."""
    if not are_numbers(thing, game):
        return False
    own = rises(game)
    return all([sign(thing[goal] - thing[standing]) == sign(own[standing][goal])
                for standing in own for goal in own[standing]])


def sign(number):
    """Return 1, 0 or -1 for a number above 0, 0, or one below."""
    return 1 if number > 0 else -1 if number < 0 else 0


def weak_ring(game):
    """Return a weak ring of as few changes as possible, or None."""
    own = rises(game)
    ring = shortest_ring(over(own, -1), over(own, 0))
    return None if ring is None else row_through(game, ring)


def is_weak_ring(game, thing):
    """Return whether any value is a weak ring of a game."""
    if not is_ring(game, thing):
        return False
    places = walked(game, thing)
    gains = [game.own(places[at], change) for at, change in enumerate(thing[1])]
    return min(gains) >= 0 and max(gains) > 0
