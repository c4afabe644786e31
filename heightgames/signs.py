"""Heights by signs."""

from heightgames.rows import is_ring, rises, row_through, walked
from heightgames.shapes import are_numbers, joined, over, ranks, shortest_ring


def levels(game):
    """Return the list of the levels, each ascending, by their first standings."""
    own = rises(game)
    return joined({standing: [goal for goal in own[standing] if own[standing][goal] == 0] for standing in own})


def sign_height(game):
    """Return the least height by signs, or None."""
    return ranks(over(rises(game), 0), levels(game))


def is_sign_height(game, thing):
    """Return whether any value is a height by signs of a game."""
    if not are_numbers(thing, game):
        return False
    own = rises(game)
    # Each change may be done back, so what rises neither there nor back stays.
    return all([(thing[goal] > thing[standing]) == (own[standing][goal] > 0)
                for standing in own for goal in own[standing]])


def weak_ring(game):
    """Return a weak ring of as few changes as possible, or None."""
    own = rises(game)
    ring = shortest_ring(over(own, -1), over(own, 0))
    return None if ring is None else row_through(game, ring)


def is_weak_ring(game, thing):
    """Return whether any value is a weak ring of a game."""
    if not is_ring(game, thing):
        return False
    places = walked(game, thing)
    gains = [game.own(places[at], change) for at, change in enumerate(thing[1])]
    return min(gains) >= 0 and max(gains) > 0
