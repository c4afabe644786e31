"""Two games side by side."""

from heightgames.errors import Clash, TooWide
from heightgames.games import Game
from heightgames.kinds import MOST_NAMES, MOST_STANDINGS
from heightgames.shapes import sorted_ways, standings_of


def beside(game, other):
    """Return the Game of the choosers of two, each of which gains what it gains in its own."""
    for chooser in game.choosers():
        if other.has_chooser(chooser):
            raise Clash(chooser)
    if len(game.choosers()) + len(other.choosers()) > MOST_NAMES or len(game) * len(other) > MOST_STANDINGS:
        raise TooWide()
    ways = game.shape()
    ways.update(other.shape())
    names = sorted(ways)
    table = {}
    for standing in standings_of(sorted_ways(ways)):
        mine, yours = parted(game, names, standing)
        gain_of = dict(zip(game.choosers(), game.gain_table[mine]))
        gain_of.update(dict(zip(other.choosers(), other.gain_table[yours])))
        table[standing] = [gain_of[chooser] for chooser in names]
    return Game(ways, table)


def parted(game, names, standing):
    """Return the tuple of the ways of the choosers of a game, and of those of the other choosers, at a standing."""
    own = [way for chooser, way in zip(names, standing) if game.has_chooser(chooser)]
    return (tuple(own), tuple([way for chooser, way in zip(names, standing) if not game.has_chooser(chooser)]))


def sides(game, other, standing):
    """Return the tuple of the two standings of which a standing of two games side by side is made."""
    both = beside(game, other)
    both.check_standing(standing)
    return parted(game, both.choosers(), standing)
