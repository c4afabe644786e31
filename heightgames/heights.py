"""Heights by steps."""

from heightgames.errors import NoHeight, NoStanding
from heightgames.rows import along, lines
from heightgames.shapes import are_numbers, put


def height(game):
    """Return the height by steps that is 0 at the least standing, or None."""
    found = summed(game)
    return found if is_height(game, found) else None


def summed(game):
    """Return the dict from all standings to the sum of one row from the least standing to each."""
    least = game.standings()[0]
    found = {least: 0}
    for standing in game.standings()[1:]:
        at = [place for place, way in enumerate(standing) if way != least[place]][0]
        ahead = put(standing, at, least[at])
        found[standing] = found[ahead] + game.gains(standing)[at] - game.gains(ahead)[at]
    return found


def is_height(game, thing):
    """Return whether any value is a height by steps of a game."""
    if not are_numbers(thing, game):
        return False
    return all([len(set(excesses(game, thing, line))) == 1 for line in lines(game)])


def excesses(game, heights, line):
    """Return how much more than heights the chooser of a line gains, for each standing of the line."""
    return [game.gain(line[0], standing) - heights[standing] for standing in along(game, line)]


def split(game):
    """Return the tuple of the height and of the dict from all lines to their extras, or None."""
    found = height(game)
    if found is None:
        return None
    return (found, {line: excesses(game, found, line)[0] for line in lines(game)})


def tops(game):
    """Return the ascending list of the standings of greatest height."""
    found = height(game)
    if found is None:
        raise NoHeight()
    greatest = max(list(found.values()))
    return [standing for standing in found if found[standing] == greatest]


def nearer(game, standing, other):
    """Return how much more the height is at other than at a standing."""
    for thing in (standing, other):
        if thing not in game:
            raise NoStanding(thing)
    found = height(game)
    if found is None:
        raise NoHeight()
    return found[other] - found[standing]
