"""Games told by ties between two choosers each."""

from heightgames.errors import NoChooser, NoPair, Wrong
from heightgames.games import Game
from heightgames.heights import height
from heightgames.kinds import is_name, is_shape
from heightgames.shapes import is_one_of, is_table, sorted_ways, standings_of


class Ties:
    """A shape, and for some pairs of choosers what each of the two gains by the other."""

    def __init__(self, ways, tables):
        if not is_shape(ways):
            raise Wrong(0)
        way_lists = sorted_ways(ways)
        if not are_tables(tables, way_lists):
            raise Wrong(1)
        self.way_lists = way_lists
        self.pair_tables = {pair: sorted_table(tables[pair]) for pair in sorted(tables)}

    def __eq__(self, other):
        return (isinstance(other, Ties) and self.way_lists == other.way_lists
                and self.pair_tables == other.pair_tables)

    def pairs(self):
        """Return the ascending list of the pairs."""
        return list(self.pair_tables)

    def table(self, pair):
        """Return the dict of a pair from pairs of ways to pairs of gains."""
        if not is_one_of(pair, self.pair_tables):
            raise NoPair(pair)
        return sorted_table(self.pair_tables[pair])

    def game(self):
        """Return the Game that is told."""
        return Game(self.way_lists, {standing: self.gains_at(standing) for standing in standings_of(self.way_lists)})

    def gains_at(self, standing):
        """Return the list of the gains at a standing."""
        way_of = dict(zip(self.way_lists, standing))
        gains = {chooser: 0 for chooser in self.way_lists}
        for one, other in self.pair_tables:
            of_one, of_other = self.pair_tables[(one, other)][(way_of[one], way_of[other])]
            gains[one] += of_one
            gains[other] += of_other
        return list(gains.values())

    def tie_game(self, pair):
        """Return the Game of the two choosers of a pair alone."""
        table = self.table(pair)
        return Game({chooser: self.way_lists[chooser] for chooser in pair}, table)

    def neighbours(self, chooser):
        """Return the ascending list of the choosers with whom one has a tie."""
        if not is_name(chooser) or chooser not in self.way_lists:
            raise NoChooser(chooser)
        return [other for other in self.way_lists
                if (chooser, other) in self.pair_tables or (other, chooser) in self.pair_tables]

    def bad_ties(self):
        """Return the ascending list of the pairs whose Game alone has no height by steps."""
        return [pair for pair in self.pair_tables if height(self.tie_game(pair)) is None]


def are_tables(thing, way_lists):
    """Return whether any value is a dict from some pairs of choosers to the tables of their ways."""
    if not isinstance(thing, dict):
        return False
    pairs = [(one, other) for one in way_lists for other in way_lists if one < other]
    for pair, table in thing.items():
        if not is_one_of(pair, pairs):
            return False
        wanted = standings_of({chooser: way_lists[chooser] for chooser in pair})
        if not is_table(table, wanted, 2):
            return False
    return True


def sorted_table(table):
    """Return a copy of a table, ascending, with tuples."""
    return {ways: tuple(table[ways]) for ways in sorted(table)}
