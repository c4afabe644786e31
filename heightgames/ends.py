"""Whether betterings end, as far as facts tell."""

from heightgames.facts import free_goals, sure_goals
from heightgames.games import Game
from heightgames.graphs import clusters, path, ranks, ranks_of_parts, shortest_ring
from heightgames.places import by_places, by_standings, row_through
from heightgames.rows import line_of
from heightgames.shapes import are_numbers, put


def fate(facts):
    """Return "ends", "turns" or "open"."""
    if surely_turn(facts):
        return "turns"
    return "open" if sure_climb(facts) is None else "ends"


def surely_turn(facts):
    """Return whether the sure betterings have a ring."""
    return None in ranks(sure_goals(facts))


def untold_ring(facts):
    """Return a ring of places over untold lines, each once, or None."""
    # Places have the same lump if lines that were gone through join them.
    lumps = list(range(len(facts.ground)))
    members = [[place] for place in lumps]
    gone = []
    for line in facts.untold():
        places = facts.line_table[line]
        near = [lumps[place] for place in places]
        if len(set(near)) < len(near):
            at = [late for late, lump in enumerate(near) if lump in near[:late]][0]
            # A shortest way takes each line that was gone through at most once.
            return [places[at]] + path(free_goals(facts, gone), places[near.index(near[at])], places[at])
        gone.append(line)
        for lump in near[1:]:
            for place in members[lump]:
                lumps[place] = near[0]
            members[near[0]] = members[near[0]] + members[lump]
    return None


def sure_climb(facts):
    """Return the least numbers that are equal along untold lines and rise at sure betterings, or None."""
    if untold_ring(facts) is not None:
        return None
    found = ranks_of_parts(sure_goals(facts), clusters(free_goals(facts, facts.untold())))
    return None if found is None else by_standings(facts.ground, found)


def is_sure_climb(facts, thing):
    """Return whether any value is a dict of numbers that shows that facts surely end."""
    if not are_numbers(thing, facts.ground.standings()) or untold_ring(facts) is not None:
        return False
    numbers = by_places(facts.ground, thing)
    sure, free = sure_goals(facts), free_goals(facts, facts.untold())
    for place, number in enumerate(numbers):
        if not all([numbers[goal] > number for goal in sure[place]]):
            return False
        if not all([numbers[goal] == number for goal in free[place]]):
            return False
    return True


def possible_ring(facts):
    """Return a Game that fits, with a ring of betterings of it, or None if facts surely end."""
    places = untold_ring(facts)
    if places is None:
        sure, free = sure_goals(facts), free_goals(facts, facts.untold())
        # A shortest ring takes no untold line twice, or it could be made shorter along this line.
        places = shortest_ring([goals + others for goals, others in zip(sure, free)], sure)
    if places is None:
        return None
    return (fitting_game(facts, places), row_through(facts.ground, places))


def ending_game(facts):
    """Return a Game that fits and has no ring of betterings, or None if facts surely turn."""
    return None if surely_turn(facts) else fitting_game(facts, [0])


def fitting_game(facts, places):
    """Return a Game that fits, in which changes along untold lines are betterings if they lead through some places.

    No untold line is taken twice there. But for it all ways of an untold line gain the same.
    """
    ground = facts.ground
    table = [[0] * len(standing) for standing in ground.standings()]
    for line in facts.told():
        at = ground.seat(line[0])
        for place, rank in zip(facts.line_table[line], facts.ranks_along(line)):
            table[place][at] = rank
    standing, changes = row_through(ground, places)
    for place, (chooser, way) in zip(places[1:], changes):
        if not facts.tells(line_of(ground, ground.standings()[place], chooser)):
            table[place][ground.seat(chooser)] = 1
    return Game(facts.shape(), by_standings(ground, table))


def settling(facts):
    """Return the ascending list of the untold lines whose order, whichever it is, leaves facts that are not open."""
    if fate(facts) != "open":
        return facts.untold()
    return [line for line in facts.untold() if settles(facts, line)]


def settles(facts, line):
    """Return whether each order of a line leaves facts that are not open."""
    trial = facts.copied()
    for order in orders_along(facts.ground.ways(line[0])):
        trial.tell(line, order)
        if fate(trial) == "open":
            return False
    return True


def orders_along(ways):
    """Return the list of all orders of a line with some ways, first the one in which all gain the same."""
    found = [()]
    for way in ways:
        found = [longer for order in found for longer in with_way(order, way)]
    return found


def with_way(order, way):
    """Return the list of the orders that have one way more than an order, tied to others or between them."""
    tied = [put(order, at, order[at] + (way,)) for at in range(len(order))]
    return tied + [order[:at] + ((way,),) + order[at:] for at in range(len(order) + 1)]
