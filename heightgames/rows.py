"""Rows of changes, rings, and lines."""

from heightgames.errors import NoLine, NoStanding, NoStep, Wrong
from heightgames.kinds import is_row
from heightgames.shapes import put


def led(game, row):
    """Return the standing to which a row leads."""
    return walked(game, row)[-1]


def walked(game, row):
    """Return the list of the standings that a row comes through."""
    if not is_row(row):
        raise Wrong(1)
    standing = tuple(row[0])
    if standing not in game:
        raise NoStanding(standing)
    places = [standing]
    for at, change in enumerate(row[1]):
        if not game.can_do(places[-1], change):
            raise NoStep(at)
        chooser, way = change
        places.append(put(places[-1], game.seat(chooser), way))
    return places


def row_sum(game, row):
    """Return the sum of the own gains of the changes of a row."""
    places = walked(game, row)
    return sum([game.own(places[at], change) for at, change in enumerate(row[1])])


def is_ring(game, thing):
    """Return whether any value is a ring of a game."""
    try:
        places = walked(game, thing)
    except (Wrong, NoStanding, NoStep):
        return False
    return len(places) > 1 and places[0] == places[-1]


def lines(game):
    """Return the ascending list of all lines."""
    return sorted({line_of(game, standing, chooser) for standing in game for chooser in game.choosers()})


def line_of(game, standing, chooser):
    """Return the line of a chooser at a standing."""
    at = game.seat(chooser)
    return (chooser, standing[:at] + standing[at + 1:])


def along(game, line):
    """Return the list of the standings of a line, ascending by the way of its chooser."""
    if not game.has_line(line):
        raise NoLine(line)
    chooser, others = line
    at = game.seat(chooser)
    return [others[:at] + (way,) + others[at:] for way in game.ways(chooser)]


def lines_along(game):
    """Return the dict from all lines to the lists of their standings."""
    return {line: along(game, line) for line in lines(game)}


def rises(game):
    """Return the dict from all standings to the dicts from those one change away to the own gain of the change."""
    found = {}
    for standing in game:
        found[standing] = {game.goal(standing, change): game.own(standing, change) for change in game.changes(standing)}
    return found


def row_through(game, places):
    """Return the row that comes through a list of standings, each one change behind the one ahead."""
    changes = []
    for ahead, behind in zip(places, places[1:]):
        at = [place for place, way in enumerate(ahead) if way != behind[place]][0]
        changes.append((game.choosers()[at], behind[at]))
    return (places[0], changes)
