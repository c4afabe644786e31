"""Heights by steps."""

from heightgames.errors import NoHeight, NoStanding
from heightgames.places import by_places, by_standings, seats
from heightgames.rows import lines
from heightgames.shapes import are_numbers


def height(game):
    """Return the height by steps that is 0 at the least standing, or None."""
    found = summed(game)
    return None if extras_over(game, found) is None else by_standings(game, found)


def summed(game):
    """Return the list, by places, of the sum of one row from the least standing to each."""
    found = [0] * len(game)
    along = seats(game)
    known = 1
    for gains, every in reversed(along):
        # The first lines begin at the places that are known already.
        for line in every[:known]:
            for place in line[1:]:
                found[place] = found[line[0]] + gains[place] - gains[line[0]]
        known = known * len(every[0])
    return found


def extras_over(game, numbers):
    """Return the list of what choosers gain more than numbers, by places, all along their lines, or None."""
    found = []
    for gains, every in seats(game):
        for line in every:
            extra = gains[line[0]] - numbers[line[0]]
            for place in line:
                if gains[place] - numbers[place] != extra:
                    return None
            found.append(extra)
    return found


def is_height(game, thing):
    """Return whether any value is a height by steps of a game."""
    return are_numbers(thing, game.standings()) and extras_over(game, by_places(game, thing)) is not None


def split(game):
    """Return the tuple of the height and of the dict from all lines to their extras, or None."""
    found = summed(game)
    extras = extras_over(game, found)
    return None if extras is None else (by_standings(game, found), dict(zip(lines(game), extras)))


def tops(game):
    """Return the ascending list of the standings of greatest height."""
    found = height(game)
    if found is None:
        raise NoHeight()
    greatest = max(list(found.values()))
    return [standing for standing in found if found[standing] == greatest]


def nearer(game, standing, other):
    """Return how much more the height is at other than at a standing."""
    for thing in (standing, other):
        if thing not in game:
            raise NoStanding(thing)
    found = height(game)
    if found is None:
        raise NoHeight()
    return found[other] - found[standing]
