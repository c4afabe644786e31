"""What standings are worth to all choosers together."""

from heightgames.betterings import rests
from heightgames.shapes import lowest


def best_sum(game):
    """Return the greatest sum of the gains at a standing, with the least standing that has it."""
    return greatest(sums_at(game, game.standings()))


def sums_at(game, standings):
    """Return the dict from some standings, ascending, to the sums of the gains there."""
    return {standing: sum(game.gain_table[standing]) for standing in standings}


def greatest(totals):
    """Return the greatest of sums, with the first standing that has it."""
    most = max(list(totals.values()))
    return (most, [standing for standing in totals if totals[standing] == most][0])


def rest_sums(game):
    """Return the least and the greatest sum of the gains at a rest, each with the least rest that has it, or None."""
    totals = sums_at(game, rests(game))
    if not totals:
        return None
    least = greatest({standing: -totals[standing] for standing in totals})
    return ((-least[0], least[1]), greatest(totals))


def dearness(roads):
    """Return the greatest cost of a rest divided by the least cost of a standing, as an amount, or None."""
    game = roads.game()
    least = -best_sum(game)[0]
    if least <= 0:
        return None
    return lowest(-rest_sums(game)[0][0], least)
