"""Betterings, the best ones, and rings of them."""

from heightgames.graphs import shortest_ring
from heightgames.places import are_steps, better, row_through
from heightgames.rows import is_ring, walked


def betterings(game, standing, *, best=False):
    """Return the ascending list of the betterings, or of the best ones, at a standing."""
    found = [change for change in game.changes(standing) if game.own(standing, change) > 0]
    return best_of(game, standing, found) if best else found


def best_of(game, standing, changes):
    """Return those betterings of all at a standing by which their choosers gain most."""
    most = {}
    for change in changes:
        most[change[0]] = max(most.get(change[0], 0), game.own(standing, change))
    return [change for change in changes if game.own(standing, change) == most[change[0]]]


def is_rest(game, standing):
    """Return whether there are no betterings at a standing."""
    return len(betterings(game, standing)) == 0


def rests(game):
    """Return the ascending list of the rests."""
    return [standing for standing, goals in zip(game.standings(), better(game, False)) if not goals]


def bettering_ring(game, *, best=False):
    """Return a ring of betterings of as few changes as possible, or None."""
    nexts = better(game, best)
    ring = shortest_ring(nexts, nexts)
    return None if ring is None else row_through(game, ring)


def is_bettering_ring(game, thing, *, best=False):
    """Return whether any value is a ring all of whose changes are betterings."""
    return is_ring(game, thing) and are_steps(game, better(game, best), walked(game, thing))
