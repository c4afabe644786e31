"""Games by places: the place of a standing is its index among all standings.

The nodes of graphs are places here; graphs.py tells what a graph is.
"""


def columns(game):
    """Return for each chooser the tuple of what it gains, by places."""
    rows = list(game.gain_table.values())
    return list(zip(*rows))


def place_lines(game):
    """Return for each chooser the list of its lines, ascending, each the list of its places by way."""
    many = len(game)
    every = list(range(many))
    found = []
    step = many
    for ways in game.way_lists.values():
        width = step
        step = width // len(ways)
        starts = [start for block in range(0, many, width) for start in range(block, block + step)]
        found.append([every[start:start + width:step] for start in starts])
    return found


def seats(game):
    """Return for each chooser the tuple of what it gains, by places, and of its lines."""
    return list(zip(columns(game), place_lines(game)))


def place_of(game, standing):
    """Return the place of a standing."""
    return game.standing_list.index(standing)


def at_places(game, places):
    """Return the list of the standings at some places."""
    return [game.standing_list[place] for place in places]


def by_standings(game, numbers):
    """Return the dict from all standings to numbers that are listed by places."""
    return dict(zip(game.standing_list, numbers))


def by_places(game, numbers):
    """Return the list, by places, of the numbers of a dict from all standings."""
    return [numbers[standing] for standing in game.standing_list]


def bits_of(places):
    """Return the number that tells some places bit by bit."""
    bits = 0
    for place in places:
        bits |= 1 << place
    return bits


def over(game, number):
    """Return the graph of the changes whose own gain is greater than a number."""
    nexts = [[] for standing in game.standing_list]
    for gains, lines in seats(game):
        for line in lines:
            for place in line:
                bar = gains[place] + number
                for goal in line:
                    # Below 0 the bar would let each place lead to itself.
                    if gains[goal] > bar and goal != place:
                        nexts[place].append(goal)
    return nexts


def level(game):
    """Return the graph of the changes of own gain 0."""
    nexts = [[] for standing in game.standing_list]
    for gains, lines in seats(game):
        for line in lines:
            for place in line:
                same = gains[place]
                for goal in line:
                    if gains[goal] == same and goal != place:
                        nexts[place].append(goal)
    return nexts


def better(game, best):
    """Return the graph of the betterings, or of the best ones."""
    if not best:
        return over(game, 0)
    nexts = [[] for standing in game.standing_list]
    for gains, lines in seats(game):
        for line in lines:
            most = max([gains[place] for place in line])
            goals = [place for place in line if gains[place] == most]
            for place in line:
                if gains[place] < most:
                    nexts[place].extend(goals)
    return nexts


def are_steps(game, nexts, standings):
    """Return whether an arrow leads from each of some standings to the one behind it."""
    places = [place_of(game, standing) for standing in standings]
    return all([behind in nexts[ahead] for ahead, behind in zip(places, places[1:])])


def row_through(game, places):
    """Return the row that comes through some places, each one change behind the one ahead."""
    standings = at_places(game, places)
    changes = []
    for ahead, behind in zip(standings, standings[1:]):
        at = [seat for seat, way in enumerate(ahead) if way != behind[seat]][0]
        changes.append((game.choosers()[at], behind[at]))
    return (standings[0], changes)
