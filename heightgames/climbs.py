"""Heights by betterings, and where rows of betterings lead."""

from heightgames.graphs import all_from, ranks, turned
from heightgames.places import at_places, better, by_places, by_standings, place_of, row_through
from heightgames.shapes import are_numbers


def climb(game, *, best=False):
    """Return the least height by betterings, or None."""
    found = ranks(better(game, best))
    return None if None in found else by_standings(game, found)


def is_climb(game, thing, *, best=False):
    """Return whether any value is a height by betterings of a game."""
    if not are_numbers(thing, game.standings()):
        return False
    numbers = by_places(game, thing)
    for place, goals in enumerate(better(game, best)):
        if not all([numbers[goal] > numbers[place] for goal in goals]):
            return False
    return True


def reached(game, standing, *, best=False):
    """Return the ascending list of the standings to which rows of betterings lead from a standing."""
    game.check_standing(standing)
    return at_places(game, all_from(better(game, best), [place_of(game, standing)]))


def ends(game, standing, *, best=False):
    """Return the ascending list of the rests to which rows of betterings lead from a standing."""
    game.check_standing(standing)
    nexts = better(game, best)
    return at_places(game, [place for place in all_from(nexts, [place_of(game, standing)]) if not nexts[place]])


def lost(game, *, best=False):
    """Return the ascending list of the standings from which no row of betterings leads to a rest."""
    nexts = better(game, best)
    ending = set(all_from(turned(nexts), [place for place, goals in enumerate(nexts) if not goals]))
    return [standing for place, standing in enumerate(game.standings()) if place not in ending]


def longest(game, standing, *, best=False):
    """Return a row of as many betterings as possible from a standing, or None if there is no end to them."""
    game.check_standing(standing)
    nexts = better(game, best)
    left = ranks(turned(nexts))
    places = [place_of(game, standing)]
    if left[places[0]] is None:
        return None
    while nexts[places[-1]]:
        places.append(max(nexts[places[-1]], key=lambda goal: left[goal]))
    return row_through(game, places)


def lengths(game, *, best=False):
    """Return the dict from all standings to the number of changes of a longest row from there, or None."""
    return by_standings(game, ranks(turned(better(game, best))))
