"""Games told by roads, and by ties."""

from heightgames.errors import NoHeight, NoTies
from heightgames.heights import split
from heightgames.roads import Roads
from heightgames.shapes import put
from heightgames.ties import Ties

LETTERS = "abcdefghijklmnopqrstuvwxyz"


def as_roads(game):
    """Return Roads that tell a game."""
    parts = split(game)
    if parts is None:
        raise NoHeight()
    heights, extras = parts
    uses = {chooser: {way: [] for way in game.ways(chooser)} for chooser in game.choosers()}
    costs = {}
    # At its standing alone all choosers go by the road of a standing, so each of them gains the height.
    for standing in game:
        road = road_name(len(costs))
        costs[road] = [0] * (len(standing) - 1) + [-heights[standing]]
        for chooser, way in zip(game.choosers(), standing):
            uses[chooser][way].append(road)
    # The chooser of a line always goes by its road, and alone just along the line.
    for line in extras:
        road = road_name(len(costs))
        costs[road] = [-extras[line]] + [0] * len(line[1])
        for chooser, way in goers(game, line):
            uses[chooser][way].append(road)
    return Roads(uses, costs)


def goers(game, line):
    """Return the list of the ways, as tuples (chooser, way), that go by the road of a line."""
    chooser, others = line
    # No way is "", so all ways of the chooser of the line are unlike it.
    barred = dict(zip(game.choosers(), others[:game.seat(chooser)] + ("",) + others[game.seat(chooser):]))
    return [(name, way) for name in game.choosers() for way in game.ways(name) if way != barred[name]]


def road_name(number):
    """Return the name of the road with a number."""
    return LETTERS[number // len(LETTERS)] + LETTERS[number % len(LETTERS)]


def as_ties(game):
    """Return Ties, with each two choosers as a pair, that tell a game."""
    pairs = [(one, other) for one in game.choosers() for other in game.choosers() if one < other]
    ties = Ties(game.shape(), {pair: tie_table(game, pair) for pair in pairs})
    if ties.game() != game:
        raise NoTies()
    return ties


def tie_table(game, pair):
    """Return the table of a pair, if the game has ties."""
    one, other = pair
    ways = [(first, second) for first in game.ways(one) for second in game.ways(other)]
    return {(first, second): (part(game, one, first, other, second), part(game, other, second, one, first))
            for first, second in ways}


def part(game, chooser, way, partner, other_way):
    """Return what a chooser gains by a partner: how much more than if all partners take their least ways.

    The first partner gives what the chooser gains with the least ways, too.
    """
    alone = put(game.standings()[0], game.seat(chooser), way)
    both = put(alone, game.seat(partner), other_way)
    first = [name for name in game.choosers() if name != chooser][0]
    return game.gain(chooser, both) - (0 if partner == first else game.gain(chooser, alone))
