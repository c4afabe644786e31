"""Team betterings, of several choosers at once."""

from heightgames.graphs import ranks, shortest_ring
from heightgames.places import at_places, bits_of, by_places, by_standings, seats
from heightgames.shapes import are_numbers


def team_betterings(game, standing):
    """Return the ascending list of the standings to which a team bettering leads from one."""
    game.check_standing(standing)
    return [goal for goal in game.standings() if is_team_bettering(game, standing, goal)]


def is_team_bettering(game, standing, goal):
    """Return whether a team bettering leads from a standing to another one."""
    if standing == goal:
        return False
    gains, more = game.gain_table[standing], game.gain_table[goal]
    return all([way == standing[at] or more[at] > gains[at] for at, way in enumerate(goal)])


def teams(game):
    """Return the graph of the team betterings, by places."""
    many = len(game)
    # The places, bit by bit, at which each chooser so far has its way again or gains more.
    bits = [(1 << many) - 1] * many
    for gains, lines in seats(game):
        more = bits_above(gains)
        for way in range(len(lines[0])):
            places = [line[way] for line in lines]
            same = bits_of(places)
            for place in places:
                bits[place] &= same | more[gains[place]]
    return [[goal for goal in range(many) if (found >> goal) & 1 and goal != place] for place, found in enumerate(bits)]


def bits_above(gains):
    """Return the dict from gains, by places, to the places, bit by bit, at which they are greater."""
    places = {}
    for place, gain in enumerate(gains):
        places.setdefault(gain, []).append(place)
    found = {}
    above = 0
    for gain in sorted(places, reverse=True):
        found[gain] = above
        above |= bits_of(places[gain])
    return found


def strong_rests(game):
    """Return the ascending list of the standings without a team bettering."""
    return [standing for standing, goals in zip(game.standings(), teams(game)) if not goals]


def team_ranks(game):
    """Return the dict from all standings to the most team betterings in a row that lead there, or None."""
    found = ranks(teams(game))
    return None if None in found else by_standings(game, found)


def team_ring(game):
    """Return a team ring of as few standings as possible, or None."""
    nexts = teams(game)
    ring = shortest_ring(nexts, nexts)
    return None if ring is None else at_places(game, ring)


def is_team_height(game, thing):
    """Return whether any value is a dict from all standings to integers that rise at each team bettering."""
    if not are_numbers(thing, game.standings()):
        return False
    numbers = by_places(game, thing)
    for place, goals in enumerate(teams(game)):
        if not all([numbers[goal] > numbers[place] for goal in goals]):
            return False
    return True


def is_team_ring(game, thing):
    """Return whether any value is a team ring."""
    if not isinstance(thing, list) or len(thing) < 2 or not all([item in game for item in thing]):
        return False
    if thing[0] != thing[-1]:
        return False
    return all([is_team_bettering(game, ahead, behind) for ahead, behind in zip(thing, thing[1:])])
