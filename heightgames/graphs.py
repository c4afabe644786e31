"""Graphs: the list, by nodes 0, 1, .., of the lists of the nodes to which an arrow leads from each."""


def turned(nexts):
    """Return the graph whose arrows lead the other way."""
    backs = [[] for goals in nexts]
    for node, goals in enumerate(nexts):
        for goal in goals:
            backs[goal].append(node)
    return backs


def all_from(nexts, starts):
    """Return the ascending list of the nodes to which arrows lead from some nodes, these too."""
    found = list(starts)
    seen = set(starts)
    at = 0
    while at < len(found):
        node = found[at]
        at += 1
        for goal in nexts[node]:
            if goal not in seen:
                seen.add(goal)
                found.append(goal)
    return sorted(found)


def path(nexts, start, goal):
    """Return a shortest list of nodes, each behind an arrow from the one ahead, from a node to another, or None."""
    ahead = {start: None}
    queue = [start]
    at = 0
    while goal not in ahead and at < len(queue):
        node = queue[at]
        at += 1
        for behind in nexts[node]:
            if behind not in ahead:
                ahead[behind] = node
                queue.append(behind)
    if goal not in ahead:
        return None
    found = [goal]
    while found[-1] != start:
        found.append(ahead[found[-1]])
    return found[::-1]


def shortest_ring(nexts, firsts):
    """Return a shortest ring, as the list of its nodes, the first one again behind them, or None.

    Its first arrow is of firsts, whose arrows all are of nexts too, and the others are of nexts.
    """
    # Bit by bit, a number tells which nodes are reached from a node by at most so many arrows.
    near = [1 << node for node in range(len(nexts))]
    while True:
        for node, goals in enumerate(firsts):
            for goal in goals:
                if (near[goal] >> node) & 1:
                    return [node] + path(nexts, goal, node)
        farther = one_arrow_on(nexts, near)
        if farther == near:
            return None
        near = farther


def one_arrow_on(nexts, near):
    """Return the numbers that tell what is reached by at most one arrow more than numbers that are handed in tell."""
    farther = []
    for node, goals in enumerate(nexts):
        bits = near[node]
        for goal in goals:
            bits = bits | near[goal]
        farther.append(bits)
    return farther


def ranks(nexts):
    """Return the list, by nodes, of the most arrows, one behind the other, that lead there, or None if without end."""
    waits = [0] * len(nexts)
    for goals in nexts:
        for goal in goals:
            waits[goal] += 1
    ready = [node for node, many in enumerate(waits) if many == 0]
    found = [0 if many == 0 else None for many in waits]
    at = 0
    while at < len(ready):
        node = ready[at]
        at += 1
        for goal in nexts[node]:
            waits[goal] -= 1
            # Nodes get ready by rising ranks, so the last one ahead of a node has the greatest.
            if waits[goal] == 0:
                found[goal] = found[node] + 1
                ready.append(goal)
    return found


def clusters(nexts):
    """Return the list of what arrows join, each ascending, by their first nodes, if each arrow leads back too."""
    seen = [False] * len(nexts)
    found = []
    for start in range(len(nexts)):
        if not seen[start]:
            seen[start] = True
            cluster = [start]
            at = 0
            while at < len(cluster):
                node = cluster[at]
                at += 1
                for goal in nexts[node]:
                    if not seen[goal]:
                        seen[goal] = True
                        cluster.append(goal)
            found.append(sorted(cluster))
    return found


def ranks_of_parts(nexts, parts):
    """Return the ranks, or None if one is without end, if the nodes of each of some parts are taken for one."""
    part_of = [0] * len(nexts)
    for at, part in enumerate(parts):
        for node in part:
            part_of[node] = at
    found = ranks([[part_of[goal] for node in part for goal in nexts[node]] for part in parts])
    return None if None in found else [found[at] for at in part_of]
