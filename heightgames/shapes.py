"""What the other modules share: standings, integers, and graphs.

A graph is a dict from nodes, ascending, to lists of the nodes to which an arrow leads from there.
"""

from heightgames.kinds import is_integer, is_name


def sorted_ways(ways):
    """Return a shape as a dict of lists, choosers and ways ascending."""
    return {chooser: sorted(ways[chooser]) for chooser in sorted(ways)}


def standings_of(way_lists):
    """Return the ascending list of the standings of what sorted_ways returned."""
    standings = [()]
    for ways in way_lists.values():
        standings = [standing + (way,) for standing in standings for way in ways]
    return standings


def put(items, at, item):
    """Return a tuple, such as a standing, with another item at a place."""
    return items[:at] + (item,) + items[at + 1:]


def is_one_of(thing, tuples):
    """Return whether any value is one of some tuples of names, the keys of a dict."""
    # Only what consists of names is looked up: other values may not be able to be keys.
    return isinstance(thing, tuple) and all([is_name(item) for item in thing]) and thing in tuples


def are_integers(thing, many):
    """Return whether any value is a list or tuple of so many integers."""
    if not isinstance(thing, (list, tuple)) or len(thing) != many:
        return False
    return all([is_integer(item) for item in thing])


def is_table(thing, wanted, many):
    """Return whether any value is a dict from just the wanted keys to so many integers each."""
    if not isinstance(thing, dict) or len(thing) != len(wanted):
        return False
    return all([key in thing and are_integers(thing[key], many) for key in wanted])


def are_numbers(thing, wanted):
    """Return whether any value is a dict from just the wanted keys to integers."""
    if not isinstance(thing, dict) or len(thing) != len(wanted):
        return False
    return all([key in thing and is_integer(thing[key]) for key in wanted])


def divisor(one, other):
    """Return the greatest common divisor of two integers from 0 on."""
    while other > 0:
        one, other = other, one % other
    return one


def over(rises, number):
    """Return the graph of the changes that rise by more than a number."""
    return {node: [goal for goal in rises[node] if rises[node][goal] > number] for node in rises}


def singles(nexts):
    """Return the list of the groups of one node each of a graph."""
    return [[node] for node in nexts]


def paths_from(nexts, start):
    """Return the dict from the nodes that are reached from a node to shortest lists of nodes that lead there."""
    found = {start: [start]}
    latest = [start]
    while latest:
        fresh = []
        for node in latest:
            for goal in nexts[node]:
                if goal not in found:
                    found[goal] = found[node] + [goal]
                    fresh.append(goal)
        latest = fresh
    return found


def joined(nexts):
    """Return the list of the groups of a graph whose arrows lead there and back, ascending, by their first nodes."""
    groups = {node: sorted(paths_from(nexts, node)) for node in nexts}
    return [groups[node] for node in groups if groups[node][0] == node]


def shortest_ring(nexts, firsts):
    """Return a shortest ring, as the list of its nodes, whose first arrow is of a graph and all others of nexts.

    The first graph is a part of nexts. The result is None if there is no such ring.
    """
    paths = {node: paths_from(nexts, node) for node in nexts}
    rings = [[node] + paths[goal][node] for node in firsts for goal in firsts[node] if node in paths[goal]]
    return min(rings, key=len, default=None)


def depths(nexts):
    """Return the dict from the nodes to the most arrows, one behind the other, from there, or None if without end."""
    found = {}
    ready = [node for node in nexts if not nexts[node]]
    while ready:
        for node in ready:
            found[node] = max([found[goal] + 1 for goal in nexts[node]], default=0)
        ready = [node for node in nexts if node not in found and all([goal in found for goal in nexts[node]])]
    return {node: found.get(node) for node in nexts}


def ranks(nexts, groups):
    """Return the dict from the nodes to the most arrows, one behind the other, that lead there, or None for a ring.

    Nodes of a group are taken for one.
    """
    first = {node: group[0] for group in groups for node in group}
    backs = {group[0]: [] for group in groups}
    for node in nexts:
        for goal in nexts[node]:
            backs[first[goal]].append(first[node])
    found = depths(backs)
    if any([number is None for number in found.values()]):
        return None
    return {node: found[first[node]] for node in nexts}
