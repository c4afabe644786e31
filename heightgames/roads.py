"""Games told by roads that are shared."""

from heightgames.errors import NoChooser, NoRoad, NoStanding, NoWay, Wrong
from heightgames.games import Game
from heightgames.kinds import is_name, is_shape
from heightgames.shapes import are_integers, is_one_of, standings_of


class Roads:
    """For each way of each chooser the roads that it goes by, and for each road its costs."""

    def __init__(self, uses, costs):
        if not are_uses(uses):
            raise Wrong(0)
        if not are_costs(costs, uses):
            raise Wrong(1)
        self.use_lists = sorted_uses(uses)
        self.cost_table = {road: tuple(costs[road]) for road in sorted(costs)}
        self.standing_list = standings_of({chooser: list(self.use_lists[chooser]) for chooser in self.use_lists})

    def __eq__(self, other):
        return (isinstance(other, Roads) and self.use_lists == other.use_lists
                and self.cost_table == other.cost_table)

    def roads(self):
        """Return the ascending list of the roads that have costs."""
        return list(self.cost_table)

    def used(self, chooser, way):
        """Return the ascending list of the roads of a way."""
        if not is_name(chooser) or chooser not in self.use_lists:
            raise NoChooser(chooser)
        if not is_name(way) or way not in self.use_lists[chooser]:
            raise NoWay(way)
        return list(self.use_lists[chooser][way])

    def costs(self, road):
        """Return the tuple of the costs of a road."""
        self.check_road(road)
        return self.cost_table[road]

    def loads(self, standing):
        """Return the dict from all roads to how many choosers go by them at a standing."""
        if not is_one_of(standing, self.standing_list):
            raise NoStanding(standing)
        found = {road: 0 for road in self.cost_table}
        for chooser, way in zip(self.use_lists, standing):
            for road in self.use_lists[chooser][way]:
                found[road] += 1
        return found

    def cost(self, standing):
        """Return the sum of the costs of all choosers at a standing."""
        return -sum(self.gains_at(standing))

    def gains_at(self, standing):
        """Return the list of the gains at a standing."""
        loads = self.loads(standing)
        gains = []
        for chooser, way in zip(self.use_lists, standing):
            gains.append(-sum([self.cost_table[road][loads[road] - 1] for road in self.use_lists[chooser][way]]))
        return gains

    def game(self):
        """Return the Game that is told."""
        ways = {chooser: list(self.use_lists[chooser]) for chooser in self.use_lists}
        return Game(ways, {standing: self.gains_at(standing) for standing in self.standing_list})

    def height(self):
        """Return the height by steps that the costs up to the loads give."""
        return {standing: self.height_at(standing) for standing in self.standing_list}

    def height_at(self, standing):
        """Return minus the sum, over the roads, of the costs up to their loads."""
        loads = self.loads(standing)
        return -sum([sum(self.cost_table[road][:loads[road]]) for road in self.cost_table])

    def is_linear(self):
        """Return whether the costs of each road rise by one and the same number."""
        return all([rises_evenly(self.cost_table[road]) for road in self.cost_table])

    def with_costs(self, road, costs):
        """Return the Roads with other costs of a road."""
        self.check_road(road)
        if not are_integers(costs, len(self.use_lists)):
            raise Wrong(1)
        table = dict(self.cost_table)
        table[road] = costs
        return Roads(self.use_lists, table)

    def check_road(self, road):
        """Raise NoRoad for what is no road that has costs."""
        if not is_name(road) or road not in self.cost_table:
            raise NoRoad(road)


def are_uses(thing):
    """Return whether any value is a dict from choosers to dicts from their ways to roads."""
    if not isinstance(thing, dict):
        return False
    if not all([is_name(chooser) and isinstance(thing[chooser], dict) for chooser in thing]):
        return False
    if not is_shape({chooser: list(thing[chooser]) for chooser in thing}):
        return False
    return all([are_roads(roads) for ways in thing.values() for roads in ways.values()])


def are_roads(thing):
    """Return whether any value is a list or tuple of different names, perhaps none."""
    if not isinstance(thing, (list, tuple)) or not all([is_name(road) for road in thing]):
        return False
    return len(set(thing)) == len(thing)


def are_costs(thing, uses):
    """Return whether any value is a dict from all roads that are used, and perhaps others, to their costs."""
    if not isinstance(thing, dict):
        return False
    if not all([is_name(road) and are_integers(thing[road], len(uses)) for road in thing]):
        return False
    return all([road in thing for ways in uses.values() for roads in ways.values() for road in roads])


def sorted_uses(uses):
    """Return a copy of uses with choosers, ways and roads ascending."""
    found = {}
    for chooser in sorted(uses):
        found[chooser] = {way: sorted(uses[chooser][way]) for way in sorted(uses[chooser])}
    return found


def rises_evenly(costs):
    """Return whether numbers rise by the same number from each to the next."""
    return all([costs[at] - costs[at - 1] == costs[1] - costs[0] for at in range(2, len(costs))])
