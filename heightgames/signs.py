"""Heights by signs."""

from heightgames.graphs import clusters, ranks_of_parts, shortest_ring
from heightgames.places import at_places, by_places, by_standings, level, over, row_through, seats
from heightgames.rows import is_ring, walked
from heightgames.shapes import are_numbers


def levels(game):
    """Return the list of the levels, each ascending, by their first standings."""
    return [at_places(game, cluster) for cluster in clusters(level(game))]


def sign_height(game):
    """Return the least height by signs, or None."""
    found = ranks_of_parts(over(game, 0), clusters(level(game)))
    return None if found is None else by_standings(game, found)


def is_sign_height(game, thing):
    """Return whether any value is a height by signs of a game."""
    if not are_numbers(thing, game.standings()):
        return False
    numbers = by_places(game, thing)
    for gains, lines in seats(game):
        for line in lines:
            for place in line:
                for goal in line:
                    # Each change may be done back, so what rises neither there nor back stays.
                    if (numbers[goal] > numbers[place]) != (gains[goal] > gains[place]):
                        return False
    return True


def weak_ring(game):
    """Return a weak ring of as few changes as possible, or None."""
    ring = shortest_ring(over(game, -1), over(game, 0))
    return None if ring is None else row_through(game, ring)


def is_weak_ring(game, thing):
    """Return whether any value is a weak ring of a game."""
    if not is_ring(game, thing):
        return False
    places = walked(game, thing)
    gains = [game.own(places[at], change) for at, change in enumerate(thing[1])]
    return min(gains) >= 0 and max(gains) > 0
