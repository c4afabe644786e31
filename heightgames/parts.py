"""Which choosers hang on which, and ways that are always worse than others."""

from heightgames.errors import Wrong
from heightgames.games import Game
from heightgames.places import seats
from heightgames.shapes import sorted_ways, standings_of
from heightgames.squares import crossings
from heightgames.weights import groups_by


def hangs(game):
    """Return the ascending list of the tuples (one, other) such that chooser one hangs on other."""
    found = []
    for (one, other), marks in crossings(game).items():
        if any([mark[2] != 0 for mark in marks]):
            found.append((one, other))
        if any([mark[3] != 0 for mark in marks]):
            found.append((other, one))
    return sorted(found)


def lots(game):
    """Return the ascending list of the least lots of choosers of which none hangs on one of another lot."""
    return groups_by(game, hangs(game))


def fixed(game, ways):
    """Return the Game of those choosers whose ways are not told, while the others take theirs."""
    if not are_fixed(game, ways):
        raise Wrong(1)
    left = {chooser: game.ways(chooser) for chooser in game.choosers() if chooser not in ways}
    table = {}
    for standing in standings_of(sorted_ways(left)):
        way_of = dict(zip(left, standing))
        whole = tuple([ways[chooser] if chooser in ways else way_of[chooser] for chooser in game.choosers()])
        table[standing] = [game.gain(chooser, whole) for chooser in left]
    return Game(left, table)


def are_fixed(game, thing):
    """Return whether any value is a dict from some choosers, not all, to a way of each."""
    if not isinstance(thing, dict) or len(thing) >= len(game.choosers()):
        return False
    for chooser, way in thing.items():
        if not game.has_chooser(chooser) or way not in game.ways(chooser):
            return False
    return True


def worse(game):
    """Return the ascending list of the tuples (chooser, way, by) for the ways that always gain less than others."""
    found = []
    for chooser, (gains, lines) in zip(game.choosers(), seats(game)):
        ways = game.ways(chooser)
        for low, way in enumerate(ways):
            # Ways are ascending, so the first one found is the least.
            least = [by for high, by in enumerate(ways) if is_less(gains, lines, low, high)][:1]
            found.extend([(chooser, way, by) for by in least])
    return found


def is_less(gains, lines, low, high):
    """Return whether a chooser always gains less by a way than by another one, both told by their index."""
    return all([gains[line[low]] < gains[line[high]] for line in lines])


def struck(game):
    """Return the Game that is left when ways that are always worse are taken out, and the list of the tuples."""
    steps = []
    found = worse(game)
    while found:
        steps.append(found[0])
        game = without(game, found[0])
        found = worse(game)
    return (game, steps)


def without(game, step):
    """Return the Game without the way of a tuple."""
    return game.kept({step[0]: [way for way in game.ways(step[0]) if way != step[1]]})


def is_struck(game, thing):
    """Return whether any value is a list of tuples of ways to take out, behind which there are none any more."""
    if not isinstance(thing, list):
        return False
    left = game
    for step in thing:
        if not is_step(left, step):
            return False
        left = without(left, step)
    return not worse(left)


def is_step(game, thing):
    """Return whether any value is a tuple of a chooser, a way by which it always gains less, and one by which more."""
    if not isinstance(thing, tuple) or len(thing) != 3 or not game.has_chooser(thing[0]):
        return False
    chooser, way, by = thing
    ways = game.ways(chooser)
    if way not in ways or by not in ways:
        return False
    gains, lines = seats(game)[game.seat(chooser)]
    return is_less(gains, lines, ways.index(way), ways.index(by))
