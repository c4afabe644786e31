"""Heights by betterings, and where rows of betterings lead."""

from heightgames.betterings import better
from heightgames.rows import row_through
from heightgames.shapes import are_numbers, depths, paths_from, ranks, singles


def climb(game, *, best=False):
    """Return the least height by betterings, or None."""
    nexts = better(game, best)
    return ranks(nexts, singles(nexts))


def is_climb(game, thing, *, best=False):
    """Return whether any value is a height by betterings of a game."""
    if not are_numbers(thing, game):
        return False
    nexts = better(game, best)
    return all([thing[goal] > thing[standing] for standing in nexts for goal in nexts[standing]])


def reached(game, standing, *, best=False):
    """Return the ascending list of the standings to which rows of betterings lead from a standing."""
    game.check_standing(standing)
    return sorted(paths_from(better(game, best), standing))


def ends(game, standing, *, best=False):
    """Return the ascending list of the rests to which rows of betterings lead from a standing."""
    game.check_standing(standing)
    return ends_of(better(game, best), standing)


def ends_of(nexts, standing):
    """Return the ascending list of the standings without an arrow that are reached from a standing."""
    return [goal for goal in sorted(paths_from(nexts, standing)) if not nexts[goal]]


def lost(game, *, best=False):
    """Return the ascending list of the standings from which no row of betterings leads to a rest."""
    nexts = better(game, best)
    return [standing for standing in nexts if not ends_of(nexts, standing)]


def longest(game, standing, *, best=False):
    """Return a row of as many betterings as possible from a standing, or None if there is no end to them."""
    game.check_standing(standing)
    nexts = better(game, best)
    left = depths(nexts)
    if left[standing] is None:
        return None
    places = [standing]
    while nexts[places[-1]]:
        places.append(max(nexts[places[-1]], key=lambda goal: left[goal]))
    return row_through(game, places)


def lengths(game, *, best=False):
    """Return the dict from all standings to the number of changes of a longest row from there, or None."""
    return depths(better(game, best))
