"""What the other modules share: standings, integers, and amounts."""

from heightgames.kinds import is_integer, is_name


def sorted_ways(ways):
    """Return a shape as a dict of lists, choosers and ways ascending."""
    return {chooser: sorted(ways[chooser]) for chooser in sorted(ways)}


def standings_of(way_lists):
    """Return the ascending list of the standings of what sorted_ways returned."""
    standings = [()]
    for ways in way_lists.values():
        standings = [standing + (way,) for standing in standings for way in ways]
    return standings


def put(items, at, item):
    """Return a tuple, such as a standing, with another item at a place."""
    return items[:at] + (item,) + items[at + 1:]


def is_one_of(thing, tuples):
    """Return whether any value is one of some tuples of names, the keys of a dict."""
    # Only what consists of names is looked up: other values may not be able to be keys.
    return isinstance(thing, tuple) and all([is_name(item) for item in thing]) and thing in tuples


def are_integers(thing, many):
    """Return whether any value is a list or tuple of so many integers."""
    if not isinstance(thing, (list, tuple)) or len(thing) != many:
        return False
    return all([is_integer(item) for item in thing])


def is_table(thing, wanted, many):
    """Return whether any value is a dict from just the wanted keys to so many integers each."""
    if not isinstance(thing, dict) or len(thing) != len(wanted):
        return False
    return all([key in thing and are_integers(thing[key], many) for key in wanted])


def are_numbers(thing, wanted):
    """Return whether any value is a dict from just the wanted keys to integers."""
    if not isinstance(thing, dict) or len(thing) != len(wanted):
        return False
    return all([key in thing and is_integer(thing[key]) for key in wanted])


def divisor(one, other):
    """Return the greatest common divisor of two integers from 0 on."""
    while other > 0:
        one, other = other, one % other
    return one


def lowest(top, bottom):
    """Return the amount top divided by bottom, top from 0 on and bottom from 1 on, in lowest terms."""
    common = divisor(top, bottom)
    return (top // common, bottom // common)
