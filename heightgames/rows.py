"""Rows of changes, rings, and lines."""

from heightgames.errors import NoLine, NoStanding, NoStep, Wrong
from heightgames.kinds import is_row
from heightgames.places import place_lines
from heightgames.shapes import put


def led(game, row):
    """Return the standing to which a row leads."""
    return walked(game, row)[-1]


def walked(game, row):
    """Return the list of the standings that a row comes through."""
    if not is_row(row):
        raise Wrong(1)
    standing = tuple(row[0])
    if standing not in game:
        raise NoStanding(standing)
    places = [standing]
    for at, change in enumerate(row[1]):
        if not game.can_do(places[-1], change):
            raise NoStep(at)
        chooser, way = change
        places.append(put(places[-1], game.seat(chooser), way))
    return places


def row_sum(game, row):
    """Return the sum of the own gains of the changes of a row."""
    places = walked(game, row)
    return sum([game.own(places[at], change) for at, change in enumerate(row[1])])


def is_ring(game, thing):
    """Return whether any value is a ring of a game."""
    try:
        places = walked(game, thing)
    except (Wrong, NoStanding, NoStep):
        return False
    return len(places) > 1 and places[0] == places[-1]


def lines(game):
    """Return the ascending list of all lines."""
    return list(lines_by_places(game))


def lines_by_places(game):
    """Return the ascending dict from all lines to the lists of their places by way."""
    every = place_lines(game)
    found = {}
    for at, chooser in enumerate(game.choosers()):
        for places in every[at]:
            standing = game.standing_list[places[0]]
            found[(chooser, standing[:at] + standing[at + 1:])] = places
    return found


def line_of(game, standing, chooser):
    """Return the line of a chooser at a standing."""
    at = game.seat(chooser)
    return (chooser, standing[:at] + standing[at + 1:])


def along(game, line):
    """Return the list of the standings of a line, ascending by the way of its chooser."""
    if not game.has_line(line):
        raise NoLine(line)
    chooser, others = line
    at = game.seat(chooser)
    return [others[:at] + (way,) + others[at:] for way in game.ways(chooser)]
