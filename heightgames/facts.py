"""Facts: what is told of a game, line by line."""

from heightgames.errors import NoLine, NoOrder, Untold, Wrong
from heightgames.games import Game
from heightgames.kinds import is_name, is_shape
from heightgames.places import at_places
from heightgames.rows import along, line_of, lines_by_places
from heightgames.shapes import sorted_ways, standings_of


class Facts:
    """A shape, and the orders of some of its lines."""

    def __init__(self, ways):
        if not is_shape(ways):
            raise Wrong(0)
        # A Game without gains knows what the standings, lines and changes of the shape are.
        self.ground = Game(ways, {standing: [0] * len(ways) for standing in standings_of(sorted_ways(ways))})
        self.line_table = lines_by_places(self.ground)
        self.order_table = {}

    def __eq__(self, other):
        return (isinstance(other, Facts) and self.ground == other.ground
                and self.order_table == other.order_table)

    def tell(self, line, order):
        """Tell the order of a line."""
        self.check_line(line)
        if not is_order(order, self.ground.ways(line[0])):
            raise NoOrder(order)
        self.order_table[line] = tuple([tuple(sorted(ways)) for ways in order])

    def forget(self, line):
        """Tell nothing of a line any more."""
        self.check_line(line)
        if not self.tells(line):
            raise Untold(line)
        del self.order_table[line]

    def shape(self):
        """Return the dict from the choosers to their ways."""
        return self.ground.shape()

    def told(self):
        """Return the dict from the lines that are told to their orders."""
        return {line: self.order_table[line] for line in sorted(self.order_table)}

    def untold(self):
        """Return the ascending list of the lines of two ways or more that are not told."""
        return [line for line in self.line_table if not self.tells(line) and len(self.line_table[line]) > 1]

    def fits(self, game):
        """Return whether all that is told is so in a Game."""
        if game.shape() != self.shape():
            return False
        return all([order_in(game, line) == self.order_table[line] for line in self.order_table])

    def copied(self):
        """Return a copy that goes on by itself."""
        other = Facts(self.shape())
        for line in self.order_table:
            other.tell(line, self.order_table[line])
        return other

    def check_line(self, line):
        """Raise NoLine for what is no line."""
        if not self.ground.has_line(line):
            raise NoLine(line)

    def tells(self, line):
        """Return whether a line is told."""
        return line in self.order_table

    def way_ranks(self, line):
        """Return the dict from the ways of a line that is told to their places in its order."""
        return {way: at for at, tied in enumerate(self.order_table[line]) for way in tied}

    def ranks_along(self, line):
        """Return the list of the places of the ways of a line that is told in its order, by way."""
        ranks = self.way_ranks(line)
        return [ranks[way] for way in self.ground.way_lists[line[0]]]


def is_order(thing, ways):
    """Return whether any value is an order of a line whose chooser has some ways, ascending."""
    if not isinstance(thing, (list, tuple)):
        return False
    if not all([isinstance(tied, (list, tuple)) and len(tied) > 0 for tied in thing]):
        return False
    names = [way for tied in thing for way in tied]
    return all([is_name(way) for way in names]) and sorted(names) == ways


def order_in(game, line):
    """Return the order of a line in a game."""
    at = game.seat(line[0])
    tied = {}
    for standing in along(game, line):
        tied.setdefault(game.gain(line[0], standing), []).append(standing[at])
    return tuple([tuple(tied[gain]) for gain in sorted(tied)])


def facts_of(game, lines):
    """Return the Facts that tell the orders of some lines of a game."""
    facts = Facts(game.shape())
    for line in lines:
        facts.tell(line, order_in(game, line))
    return facts


def sure_goals(facts):
    """Return the graph, by places, of the changes that are betterings in all games that fit."""
    nexts = [[] for standing in facts.ground.standings()]
    for line in facts.told():
        places, ranks = facts.line_table[line], facts.ranks_along(line)
        for place, here in zip(places, ranks):
            nexts[place].extend([goal for goal, there in zip(places, ranks) if there > here])
    return nexts


def free_goals(facts, lines):
    """Return the graph, by places, of the changes along some lines."""
    nexts = [[] for standing in facts.ground.standings()]
    for line in lines:
        for place in facts.line_table[line]:
            nexts[place].extend([goal for goal in facts.line_table[line] if goal != place])
    return nexts


def is_sure(facts, standing, change):
    """Return whether a change is a bettering in all games that fit."""
    facts.ground.goal(standing, change)
    chooser, way = change
    line = line_of(facts.ground, standing, chooser)
    if not facts.tells(line):
        return False
    ranks = facts.way_ranks(line)
    return ranks[way] > ranks[standing[facts.ground.seat(chooser)]]


def is_possible(facts, standing, change):
    """Return whether a change is a bettering in some game that fits."""
    if is_sure(facts, standing, change):
        return True
    return not facts.tells(line_of(facts.ground, standing, change[0]))


def sure_rests(facts):
    """Return the ascending list of the standings that are rests in all games that fit."""
    sure, free = sure_goals(facts), free_goals(facts, facts.untold())
    return at_places(facts.ground, [place for place in range(len(sure)) if not sure[place] and not free[place]])


def possible_rests(facts):
    """Return the ascending list of the standings that are rests in some game that fits."""
    return at_places(facts.ground, [place for place, sure in enumerate(sure_goals(facts)) if not sure])
