"""Rounds, in which the choosers come in an order."""

from heightgames.betterings import betterings, is_rest
from heightgames.rows import led


def round_from(game, standing, order):
    """Return the row of a round from a standing."""
    changes = []
    place = standing
    for chooser in order:
        # Best betterings are ascending, so the first one of a chooser has the least way.
        best = [change for change in betterings(game, place, best=True) if change[0] == chooser][:1]
        if best:
            place = game.goal(place, best[0])
        changes.extend(best)
    return (standing, changes)


def rounds(game, standing, order):
    """Return whether rounds from a standing come to a rest or turn, and the standings at which they begin."""
    places = [standing]
    while not is_rest(game, places[-1]):
        goal = led(game, round_from(game, places[-1], order))
        places.append(goal)
        if goal in places[:-1]:
            return ("turns", places)
    return ("rests", places)


def resting_order(game):
    """Return the least order with which rounds come to a rest from every standing, or None."""
    for order in orders_of(game.choosers()):
        if not turning(game, order):
            return order
    return None


def orders_of(names):
    """Return the ascending list of the orders of ascending names."""
    found = [[]]
    for name in names:
        found = [order + [other] for order in found for other in names if other not in order]
    return found


def turning(game, order):
    """Return the ascending list of the standings from which rounds with an order come to no rest."""
    goals = {standing: led(game, round_from(game, standing, order)) for standing in game}
    return [standing for standing in game if not settles(goals, standing)]


def settles(goals, standing):
    """Return whether rounds from a standing come to one that leads to itself, a rest."""
    seen = [standing]
    while goals[seen[-1]] not in seen:
        seen.append(goals[seen[-1]])
    return goals[seen[-1]] == seen[-1]
