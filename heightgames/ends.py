"""Whether betterings end, as far as facts tell."""

from heightgames.facts import sure_goals, untold_goals
from heightgames.games import Game
from heightgames.rows import line_of, row_through, walked
from heightgames.shapes import are_numbers, joined, paths_from, put, ranks, shortest_ring, singles


def fate(facts):
    """Return "ends", "turns" or "open"."""
    if surely_turn(facts):
        return "turns"
    return "open" if sure_climb(facts) is None else "ends"


def surely_turn(facts):
    """Return whether the sure betterings have a ring."""
    sure = sure_goals(facts)
    return ranks(sure, singles(sure)) is None


def untold_ring(facts):
    """Return a ring of standings over untold lines, each once, or None."""
    nexts = {standing: [] for standing in facts.ground}
    for line in facts.untold():
        places = facts.line_table[line]
        # A shortest way takes each line that was joined already at most once.
        for start in places:
            paths = paths_from(nexts, start)
            for goal in places:
                if goal != start and goal in paths:
                    return [goal] + paths[goal]
        for place in places:
            nexts[place].extend([goal for goal in places if goal != place])
    return None


def sure_climb(facts):
    """Return the least numbers that are equal along untold lines and rise at sure betterings, or None."""
    if untold_ring(facts) is not None:
        return None
    return ranks(sure_goals(facts), joined(untold_goals(facts)))


def is_sure_climb(facts, thing):
    """Return whether any value is a dict of numbers that shows that facts surely end."""
    if not are_numbers(thing, facts.ground) or untold_ring(facts) is not None:
        return False
    sure, free = sure_goals(facts), untold_goals(facts)
    if not all([thing[goal] > thing[standing] for standing in sure for goal in sure[standing]]):
        return False
    return all([thing[goal] == thing[standing] for standing in free for goal in free[standing]])


def possible_ring(facts):
    """Return a Game that fits, with a ring of betterings of it, or None if facts surely end."""
    places = untold_ring(facts)
    if places is None:
        sure, free = sure_goals(facts), untold_goals(facts)
        # A shortest ring takes no untold line twice, or it could be made shorter along this line.
        places = shortest_ring({standing: sure[standing] + free[standing] for standing in sure}, sure)
    if places is None:
        return None
    ring = row_through(facts.ground, places)
    return (fitting_game(facts, ring), ring)


def ending_game(facts):
    """Return a Game that fits and has no ring of betterings, or None if facts surely turn."""
    if surely_turn(facts):
        return None
    return fitting_game(facts, (facts.ground.standings()[0], []))


def fitting_game(facts, row):
    """Return a Game that fits, in which the changes of a row along untold lines are betterings.

    The row takes no untold line twice. But for it all ways of an untold line gain the same.
    """
    gains = {standing: facts.ground.gains(standing) for standing in facts.ground}
    for line in facts.told():
        level = facts.levels_along(line)
        for standing in level:
            gains[standing] = put(gains[standing], facts.ground.seat(line[0]), level[standing])
    places = walked(facts.ground, row)
    for at, change in enumerate(row[1]):
        if line_of(facts.ground, places[at], change[0]) in facts.untold():
            gains[places[at + 1]] = put(gains[places[at + 1]], facts.ground.seat(change[0]), 1)
    return Game(facts.shape(), gains)


def settling(facts):
    """Return the ascending list of the untold lines whose order, whichever it is, leaves facts that are not open."""
    if fate(facts) != "open":
        return facts.untold()
    return [line for line in facts.untold() if settles(facts, line)]


def settles(facts, line):
    """Return whether each order of a line leaves facts that are not open."""
    trial = facts.copied()
    for order in orders_along(facts.ground.ways(line[0])):
        trial.tell(line, order)
        if fate(trial) == "open":
            return False
    return True


def orders_along(ways):
    """Return the list of all orders of a line with some ways, first the one in which all gain the same."""
    found = [()]
    for way in ways:
        longer = []
        for order in found:
            longer.extend([put(order, at, order[at] + (way,)) for at in range(len(order))])
            longer.extend([order[:at] + ((way,),) + order[at:] for at in range(len(order) + 1)])
        found = longer
    return found
