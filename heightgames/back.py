"""What was seen of a game that nobody told."""

from heightgames.errors import NoHeight, Nothing, Wrong
from heightgames.games import Game
from heightgames.graphs import shortest_ring
from heightgames.kinds import is_shape
from heightgames.places import at_places, by_places, by_standings, place_of
from heightgames.shapes import are_numbers, sorted_ways, standings_of

BETTER = "better"
REST = "rest"


class Seen:
    """What was seen, in order: betterings and rests."""

    def __init__(self, ways):
        if not is_shape(ways):
            raise Wrong(0)
        # A Game without gains knows what the standings and changes of the shape are.
        self.ground = Game(ways, {standing: [0] * len(ways) for standing in standings_of(sorted_ways(ways))})
        self.told_list = []

    def __len__(self):
        return len(self.told_list)

    def __iter__(self):
        return iter(self.told_list)

    def saw(self, standing, change):
        """Tell that a change at a standing was a bettering."""
        self.ground.goal(standing, change)
        self.told_list.append((BETTER, standing, tuple(change)))

    def rested(self, standing):
        """Tell that a standing is a rest."""
        self.ground.check_standing(standing)
        self.told_list.append((REST, standing))

    def undo(self):
        """Take back what was told last, and return it."""
        if not self.told_list:
            raise Nothing()
        return self.told_list.pop()

    def height(self):
        """Return the least numbers from 0 on that fit, or None."""
        numbers = least_numbers(self.rising(), self.bounding())
        return None if numbers is None else by_standings(self.ground, numbers)

    def game(self):
        """Return the Game in which all choosers gain the height."""
        found = self.height()
        if found is None:
            raise NoHeight()
        return Game(self.ground.shape(), {standing: [found[standing]] * len(standing) for standing in found})

    def fits(self, thing):
        """Return whether any value is a dict of numbers that fits what was seen."""
        if not are_numbers(thing, self.ground.standings()):
            return False
        numbers = by_places(self.ground, thing)
        rising, bounding = self.rising(), self.bounding()
        for place, number in enumerate(numbers):
            if not all([numbers[goal] > number for goal in rising[place]]):
                return False
            if not all([numbers[goal] >= number for goal in bounding[place]]):
                return False
        return True

    def against(self):
        """Return a shortest list of tuples (standing, other, word) that nothing fits, or None."""
        rising, bounding = self.rising(), self.bounding()
        ring = shortest_ring([goals + others for goals, others in zip(rising, bounding)], rising)
        if ring is None:
            return None
        places = at_places(self.ground, ring)
        words = [BETTER if goal in rising[place] else REST for place, goal in zip(ring, ring[1:])]
        return list(zip(places, places[1:], words))

    def is_against(self, thing):
        """Return whether any value is a list of tuples (standing, other, word), however long, that nothing fits."""
        if not isinstance(thing, list):
            return False
        graphs = {BETTER: self.rising(), REST: self.bounding()}
        if not all([self.is_arrow(graphs, item) for item in thing]):
            return False
        # The last one is the one ahead of the first.
        if not all([thing[at - 1][1] == item[0] for at, item in enumerate(thing)]):
            return False
        return any([item[2] == BETTER for item in thing])

    def is_arrow(self, graphs, thing):
        """Return whether any value is a tuple (standing, other, word) of what was seen."""
        if not isinstance(thing, tuple) or len(thing) != 3:
            return False
        standing, other, word = thing
        if standing not in self.ground or other not in self.ground or not isinstance(word, str):
            return False
        return word in graphs and place_of(self.ground, other) in graphs[word][place_of(self.ground, standing)]

    def rising(self):
        """Return the graph, by places, of the betterings that were seen."""
        nexts = [[] for standing in self.ground.standings()]
        for item in self.told_list:
            if item[0] == BETTER:
                self.add_arrow(nexts, item[1], self.ground.goal(item[1], item[2]))
        return nexts

    def bounding(self):
        """Return the graph, by places, that leads to each rest that was seen from where changes lead from there."""
        nexts = [[] for standing in self.ground.standings()]
        for item in self.told_list:
            if item[0] == REST:
                for change in self.ground.changes(item[1]):
                    self.add_arrow(nexts, self.ground.goal(item[1], change), item[1])
        return nexts

    def add_arrow(self, nexts, standing, goal):
        """Let an arrow of a graph lead from a standing to another one, if there is none yet."""
        goals = nexts[place_of(self.ground, standing)]
        if place_of(self.ground, goal) not in goals:
            goals.append(place_of(self.ground, goal))


def least_numbers(rising, bounding):
    """Return the least numbers from 0 on that rise along one graph and do not fall along another one, or None."""
    numbers = [0] * len(rising)
    changed = True
    while changed:
        changed = False
        for place in range(len(numbers)):
            wanted = [(goal, 1) for goal in rising[place]] + [(goal, 0) for goal in bounding[place]]
            for goal, more in wanted:
                if numbers[goal] < numbers[place] + more:
                    numbers[goal] = numbers[place] + more
                    changed = True
        # Only along a ring numbers get as great as there are places.
        if max(numbers) >= len(numbers):
            return None
    return numbers
