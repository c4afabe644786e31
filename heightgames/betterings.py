"""Betterings, the best ones, and rings of them."""

from heightgames.rows import is_ring, row_through, walked
from heightgames.shapes import shortest_ring


def betterings(game, standing, *, best=False):
    """Return the ascending list of the betterings, or of the best ones, at a standing."""
    found = [change for change in game.changes(standing) if game.own(standing, change) > 0]
    return best_of(game, standing, found) if best else found


def best_of(game, standing, changes):
    """Return those betterings of all at a standing by which their choosers gain most."""
    most = {}
    for change in changes:
        most[change[0]] = max(most.get(change[0], 0), game.own(standing, change))
    return [change for change in changes if game.own(standing, change) == most[change[0]]]


def better(game, best):
    """Return the graph of the betterings, or of the best ones."""
    return {standing: [game.goal(standing, change) for change in betterings(game, standing, best=best)]
            for standing in game}


def is_rest(game, standing):
    """Return whether there are no betterings at a standing."""
    return len(betterings(game, standing)) == 0


def rests(game):
    """Return the ascending list of the rests."""
    return [standing for standing in game if is_rest(game, standing)]


def bettering_ring(game, *, best=False):
    """Return a ring of betterings of as few changes as possible, or None."""
    nexts = better(game, best)
    ring = shortest_ring(nexts, nexts)
    return None if ring is None else row_through(game, ring)


def is_bettering_ring(game, thing, *, best=False):
    """Return whether any value is a ring all of whose changes are betterings."""
    if not is_ring(game, thing):
        return False
    places = walked(game, thing)
    return all([tuple(change) in betterings(game, places[at], best=best) for at, change in enumerate(thing[1])])
