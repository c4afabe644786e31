"""Games: choosers, their ways, and what each gains at each standing."""

from heightgames.errors import NoChange, NoChooser, NoLine, NoStanding, Unlike, Wrong
from heightgames.kinds import is_change, is_name, is_shape
from heightgames.shapes import are_integers, is_one_of, is_table, put, sorted_ways, standings_of


class Game:
    """A shape with an integer for each chooser at each standing."""

    def __init__(self, ways, gains):
        if not is_shape(ways):
            raise Wrong(0)
        way_lists = sorted_ways(ways)
        standings = standings_of(way_lists)
        if not is_table(gains, standings, len(way_lists)):
            raise Wrong(1)
        self.way_lists = way_lists
        self.standing_list = standings
        self.gain_table = {standing: tuple(gains[standing]) for standing in standings}

    def __eq__(self, other):
        return (isinstance(other, Game) and self.way_lists == other.way_lists
                and self.gain_table == other.gain_table)

    def __len__(self):
        return len(self.standing_list)

    def __contains__(self, x):
        return is_one_of(x, self.gain_table)

    def __iter__(self):
        return iter(self.standing_list)

    def choosers(self):
        """Return the ascending list of the choosers."""
        return list(self.way_lists)

    def ways(self, chooser):
        """Return the ascending list of the ways of a chooser."""
        self.check_chooser(chooser)
        return list(self.way_lists[chooser])

    def shape(self):
        """Return the dict from the choosers to their ways."""
        return sorted_ways(self.way_lists)

    def standings(self):
        """Return the ascending list of all standings."""
        return list(self.standing_list)

    def gain(self, chooser, standing):
        """Return what a chooser gains at a standing."""
        self.check_chooser(chooser)
        self.check_standing(standing)
        return self.gain_table[standing][self.seat(chooser)]

    def gains(self, standing):
        """Return the tuple of all gains at a standing."""
        self.check_standing(standing)
        return self.gain_table[standing]

    def goal(self, standing, change):
        """Return the standing to which a change leads."""
        self.check_standing(standing)
        if not self.can_do(standing, change):
            raise NoChange(change)
        return put(standing, self.seat(change[0]), change[1])

    def own(self, standing, change):
        """Return the own gain of a change at a standing."""
        behind = self.goal(standing, change)
        at = self.seat(change[0])
        return self.gain_table[behind][at] - self.gain_table[standing][at]

    def changes(self, standing):
        """Return the ascending list of the changes that can be done at a standing."""
        self.check_standing(standing)
        every = [(chooser, way) for chooser in self.way_lists for way in self.way_lists[chooser]]
        return [change for change in every if self.can_do(standing, change)]

    def with_gains(self, standing, gains):
        """Return the Game with other gains at a standing."""
        self.check_standing(standing)
        if not are_integers(gains, len(self.way_lists)):
            raise Wrong(1)
        table = {place: self.gain_table[place] for place in self.standing_list}
        table[standing] = gains
        return Game(self.way_lists, table)

    def plus(self, other):
        """Return the Game with the sums of the gains of both."""
        if self.way_lists != other.way_lists:
            raise Unlike()
        table = {}
        for standing in self.standing_list:
            gains = self.gain_table[standing]
            table[standing] = [mine + yours for mine, yours in zip(gains, other.gain_table[standing])]
        return Game(self.way_lists, table)

    def times(self, number):
        """Return the Game with all gains times a number."""
        table = {}
        for standing in self.standing_list:
            table[standing] = [gain * number for gain in self.gain_table[standing]]
        return Game(self.way_lists, table)

    def with_extra(self, chooser, others, number):
        """Return the Game in which a chooser gains so much more all along a line."""
        self.check_chooser(chooser)
        line = (chooser, others)
        if not self.has_line(line):
            raise NoLine(line)
        at = self.seat(chooser)
        table = {}
        for standing in self.standing_list:
            gains = self.gain_table[standing]
            on_line = standing[:at] + standing[at + 1:] == others
            table[standing] = put(gains, at, gains[at] + number) if on_line else gains
        return Game(self.way_lists, table)

    def kept(self, ways):
        """Return the Game with only some ways of some choosers."""
        if not self.can_keep(ways):
            raise Wrong(0)
        fewer = {chooser: ways.get(chooser, self.way_lists[chooser]) for chooser in self.way_lists}
        left = standings_of(sorted_ways(fewer))
        return Game(fewer, {standing: self.gain_table[standing] for standing in left})

    def has_chooser(self, thing):
        """Return whether any value is a chooser."""
        return is_name(thing) and thing in self.way_lists

    def has_line(self, thing):
        """Return whether any value is a line."""
        if not isinstance(thing, tuple) or len(thing) != 2 or not self.has_chooser(thing[0]):
            return False
        chooser, others = thing
        at = self.seat(chooser)
        # All standings of a line are there if one is.
        return isinstance(others, tuple) and others[:at] + (self.way_lists[chooser][0],) + others[at:] in self

    def can_do(self, standing, thing):
        """Return whether any value is a change that can be done at a standing."""
        if not is_change(thing) or not self.has_chooser(thing[0]):
            return False
        chooser, way = thing
        return way in self.way_lists[chooser] and way != standing[self.seat(chooser)]

    def can_keep(self, thing):
        """Return whether any value is a dict from some choosers to one or more different ways of theirs."""
        if not isinstance(thing, dict):
            return False
        for chooser, ways in thing.items():
            if not self.has_chooser(chooser) or not isinstance(ways, (list, tuple)) or len(ways) == 0:
                return False
            if not all([is_name(way) and way in self.way_lists[chooser] for way in ways]):
                return False
            if len(set(ways)) < len(ways):
                return False
        return True

    def seat(self, chooser):
        """Return the place of a chooser among all choosers."""
        return list(self.way_lists).index(chooser)

    def check_chooser(self, chooser):
        """Raise NoChooser for what is no chooser."""
        if not self.has_chooser(chooser):
            raise NoChooser(chooser)

    def check_standing(self, standing):
        """Raise NoStanding for what is no standing."""
        if standing not in self:
            raise NoStanding(standing)
