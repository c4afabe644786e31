"""Rounds, in which the choosers come in an order."""

from heightgames.graphs import all_from, turned
from heightgames.places import at_places, seats
from heightgames.shapes import put


def round_from(game, standing, order):
    """Return the row of a round from a standing."""
    game.check_standing(standing)
    changes = []
    place = standing
    for chooser in order:
        goal = where_to(game, place, chooser)
        if goal != place:
            changes.append((chooser, goal[game.seat(chooser)]))
            place = goal
    return (standing, changes)


def where_to(game, standing, chooser):
    """Return the standing to which a chooser goes when it comes."""
    at = game.seat(chooser)
    goals = [put(standing, at, way) for way in game.way_lists[chooser]]
    gains = [game.gain_table[goal][at] for goal in goals]
    most = max(gains)
    return standing if game.gain_table[standing][at] == most else goals[gains.index(most)]


def rounds(game, standing, order):
    """Return whether rounds from a standing come to a rest or turn, and the standings at which they begin."""
    game.check_standing(standing)
    places = [standing]
    while True:
        goal = places[-1]
        for chooser in order:
            goal = where_to(game, goal, chooser)
        # In a round each chooser comes once, so who is back has not moved: this is a rest.
        if goal == places[-1]:
            return ("rests", places)
        places.append(goal)
        if goal in places[:-1]:
            return ("turns", places)


def moves(game):
    """Return the dict from the choosers to the lists, by places, of the places to which each goes when it comes."""
    found = {}
    for chooser, (gains, lines) in zip(game.choosers(), seats(game)):
        goals = list(range(len(game)))
        for line in lines:
            most = max([gains[place] for place in line])
            first = [place for place in line if gains[place] == most][0]
            for place in line:
                if gains[place] < most:
                    goals[place] = first
        found[chooser] = goals
    return found


def resting_order(game):
    """Return the least order with which rounds come to a rest from every standing, or None."""
    table = moves(game)
    for order in orders_of(game.choosers()):
        if not turning_places(table, order):
            return order
    return None


def orders_of(names):
    """Return the ascending list of the orders of ascending names."""
    found = [[]]
    for name in names:
        found = [order + [other] for order in found for other in names if other not in order]
    return found


def turning(game, order):
    """Return the ascending list of the standings from which rounds with an order come to no rest."""
    return at_places(game, turning_places(moves(game), order))


def turning_places(table, order):
    """Return the ascending list of the places from which rounds come to no rest, by what moves returned."""
    goals = table[order[0]]
    for chooser in order[1:]:
        goals = [table[chooser][place] for place in goals]
    rests = [place for place, goal in enumerate(goals) if goal == place]
    resting = set(all_from(turned([[goal] for goal in goals]), rests))
    return [place for place in range(len(goals)) if place not in resting]
