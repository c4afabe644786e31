"""Slow and plain ways to find what the package tells, straight from the gains."""

import itertools


def sign(number):
    return (number > 0) - (number < 0)


def moves(game):
    """All changes of a game, as tuples (standing, change, goal, own gain)."""
    found = []
    for standing in game.standings():
        for at, chooser in enumerate(game.choosers()):
            for way in game.ways(chooser):
                if way != standing[at]:
                    goal = standing[:at] + (way,) + standing[at + 1:]
                    found.append((standing, (chooser, way), goal, game.gains(goal)[at] - game.gains(standing)[at]))
    return found


def better_moves(game, best=False):
    """The betterings among them, or the best ones."""
    found = moves(game)
    most = {}
    for standing, (chooser, _), _, own in found:
        most[(standing, chooser)] = max(own, most.get((standing, chooser), own))
    return [move for move in found if move[3] > 0 and (not best or move[3] == most[(move[0], move[1][0])])]


def graph(game, moved):
    """The dict from all standings to the sets of those to which moves lead."""
    found = {standing: set() for standing in game.standings()}
    for standing, _, goal, _ in moved:
        found[standing].add(goal)
    return found


def reach(nexts, start):
    """The set of what is reached from a node by one arrow or more."""
    found, ahead = set(), {start}
    while ahead:
        ahead = {goal for node in ahead for goal in nexts[node]} - found
        found |= ahead
    return found


def ring_size(nexts, firsts=None):
    """The least number of arrows of a ring whose first one is of firsts, or None."""
    firsts = nexts if firsts is None else firsts
    sizes = []
    for start in nexts:
        ahead, seen, many = set(firsts[start]), set(firsts[start]), 1
        while ahead and start not in ahead:
            ahead = {goal for node in ahead for goal in nexts[node]} - seen
            seen |= ahead
            many += 1
        if ahead:
            sizes.append(many)
    return min(sizes, default=None)


def most_from(nexts):
    """The dict from all nodes to the greatest number of arrows from there, or to None."""
    reached = {node: reach(nexts, node) for node in nexts}
    endless = {node for node in nexts if node in reached[node]}
    found = {node: None for node in nexts if reached[node] & endless}

    def count(node):
        if node not in found:
            found[node] = max([1 + count(goal) for goal in nexts[node]], default=0)
        return found[node]

    return {node: count(node) for node in nexts}


def most_to(nexts):
    """The dict from all nodes to the greatest number of arrows that lead there, or None if there is a ring."""
    backs = {node: {other for other in nexts if node in nexts[other]} for node in nexts}
    found = most_from(backs)
    return None if None in found.values() else found


def orders_of(ways):
    """All orders of ways, the ways in each inner tuple ascending."""
    found = set()
    for numbers in itertools.product(range(len(ways)), repeat=len(ways)):
        used = sorted(set(numbers))
        found.add(tuple(tuple(way for way, number in zip(ways, numbers) if number == one) for one in used))
    return sorted(found)
