"""Tolls by way, and promises by line."""

from heightgames.errors import Wrong
from heightgames.games import Game
from heightgames.kinds import is_integer
from heightgames.places import bits_of, place_of, seats
from heightgames.rows import line_of, lines_by_places
from heightgames.shapes import put


def tolled(game, tolls):
    """Return the Game in which each chooser gains less by the toll of its way."""
    if not isinstance(game, Game):
        raise Wrong(0)
    if not are_tolls(game, tolls):
        raise Wrong(1)
    full = {chooser: {way: 0 for way in game.ways(chooser)} for chooser in game.choosers()}
    for chooser in tolls:
        full[chooser].update(tolls[chooser])
    table = {}
    for standing in game.standings():
        due = [full[chooser][way] for chooser, way in zip(game.choosers(), standing)]
        table[standing] = [gain - toll for gain, toll in zip(game.gain_table[standing], due)]
    return Game(game.shape(), table)


def are_tolls(game, thing):
    """Return whether any value is a dict from some choosers to dicts from some of their ways to tolls."""
    if not isinstance(thing, dict):
        return False
    for chooser, part in thing.items():
        if not game.has_chooser(chooser) or not isinstance(part, dict):
            return False
        for way, toll in part.items():
            if way not in game.ways(chooser) or not is_integer(toll) or toll < 0:
                return False
    return True


def rest_tolls(game, standing):
    """Return the tolls of least sum with which a standing is a rest."""
    game.check_standing(standing)
    found = {}
    for at, chooser in enumerate(game.choosers()):
        gains = {way: game.gain_table[put(standing, at, way)][at] for way in game.ways(chooser)}
        found[chooser] = {way: max(0, gains[way] - gains[standing[at]]) for way in gains}
    return found


def lone_tolls(game, standing):
    """Return tolls of least sum with which a standing is the only rest, each chooser having one or two ways."""
    game.check_standing(standing)
    # The standings at which no chooser so far betters, bit by bit, with the least surcharges that make them so.
    chosen = {(1 << len(game)) - 1: []}
    for chooser, way, (gains, lines) in zip(game.choosers(), standing, seats(game)):
        chosen = with_one_more(chosen, surcharges(gains, lines, game.ways(chooser).index(way)))
    least = chosen[1 << place_of(game, standing)]
    tolls = {}
    for chooser, way, surcharge in zip(game.choosers(), standing, least):
        tolls[chooser] = {name: max(0, -surcharge if name == way else surcharge) for name in game.ways(chooser)}
    return tolls


def with_one_more(chosen, choice):
    """Return what lone_tolls knows of some choosers and one more, whose surcharges are in choice."""
    found = {}
    for bits in chosen:
        for staying in choice:
            both = bits & staying
            longer = chosen[bits] + [choice[staying]]
            if both not in found or toll_sum(longer) < toll_sum(found[both]):
                found[both] = longer
    return found


def toll_sum(surcharge_list):
    """Return the sum of the tolls for which surcharges stand."""
    return sum([abs(surcharge) for surcharge in surcharge_list])


def surcharges(gains, lines, own):
    """Return the dict from the places at which a chooser stays, bit by bit, to the least surcharges for this.

    A surcharge is the toll of the other way of the chooser or, below 0, minus that of its own way, told by its index.
    """
    leads = [gains[line[1 - own]] - gains[line[own]] for line in lines if len(line) == 2]
    # Where it stays can change just there, and the surcharges that are nearest to 0 are tried first.
    tried = sorted([0] + [lead + more for lead in leads for more in (-1, 0, 1)], key=abs)
    found = {}
    for surcharge in tried:
        staying = bits_of([place for line in lines for place in staying_along(gains, line, own, surcharge)])
        found.setdefault(staying, surcharge)
    return found


def staying_along(gains, line, own, surcharge):
    """Return the list of the places of a line of one or two at which its chooser stays."""
    if len(line) == 1:
        return line
    lead = gains[line[1 - own]] - gains[line[own]] - surcharge
    if lead == 0:
        return line
    return [line[own]] if lead < 0 else [line[1 - own]]


def promises(game, standing):
    """Return the dict from all lines to the least promises that make the ways of a standing better than all others."""
    game.check_standing(standing)
    found = {}
    for line, places in lines_by_places(game).items():
        at = game.seat(line[0])
        own = game.ways(line[0]).index(standing[at])
        gains = [game.gain_table[game.standing_list[place]][at] for place in places]
        others = gains[:own] + gains[own + 1:]
        found[line] = max([0] + [gain + 1 - gains[own] for gain in others])
    return found


def promised(game, standing):
    """Return the Game in which promises are paid."""
    table = {place: list(game.gain_table[place]) for place in game.standings()}
    for (chooser, others), promise in promises(game, standing).items():
        at = game.seat(chooser)
        table[others[:at] + (standing[at],) + others[at:]][at] += promise
    return Game(game.shape(), table)


def paid(game, standing):
    """Return the sum of the promises that are paid at the standing itself."""
    found = promises(game, standing)
    return sum([found[line_of(game, standing, chooser)] for chooser in game.choosers()])
