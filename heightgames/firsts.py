"""First ways, from which all rows of betterings lead to rests that are wished."""

from heightgames.betterings import is_bettering_ring
from heightgames.errors import NoStanding, NoStep, Wrong
from heightgames.graphs import all_from, path, ranks, turned
from heightgames.kinds import is_integer
from heightgames.places import are_steps, better, bits_of, place_of, row_through
from heightgames.rows import walked


def beginnings(game, first):
    """Return the ascending list of the places of the standings with first ways."""
    return [place for place, standing in enumerate(game.standings()) if begins(game, first, standing)]


def begins(game, first, standing):
    """Return whether a standing has first ways."""
    return all([standing[game.seat(chooser)] == first[chooser] for chooser in first])


def bad_rests(game, nexts, wished):
    """Return the list of the places of the rests that are not wished."""
    wanted = set(wished)
    return [place for place, standing in enumerate(game.standings()) if not nexts[place] and standing not in wanted]


def lengths_to(game, nexts, wished):
    """Return the list, by places, of the most betterings from there, or None if some row does not end as wished."""
    backs = turned(nexts)
    found = ranks(backs)
    for place in all_from(backs, bad_rests(game, nexts, wished)):
        found[place] = None
    return found


def leads(game, first, wished):
    """Return whether first ways lead to wished standings."""
    found = lengths_to(game, better(game, False), wished)
    return None not in [found[place] for place in beginnings(game, first)]


def lead_ranks(game, first, wished):
    """Return the dict from all standings behind first ways to the most betterings from there, or None."""
    nexts = better(game, False)
    found = lengths_to(game, nexts, wished)
    places = all_from(nexts, beginnings(game, first))
    if None in [found[place] for place in places]:
        return None
    return {game.standings()[place]: found[place] for place in places}


def is_lead(game, first, wished, thing):
    """Return whether any value is a dict of numbers that shows that first ways lead to wished standings."""
    if not isinstance(thing, dict):
        return False
    if not all([standing in game and is_integer(thing[standing]) and thing[standing] >= 0 for standing in thing]):
        return False
    nexts = better(game, False)
    numbers = [thing.get(standing) for standing in game.standings()]
    if None in [numbers[place] for place in beginnings(game, first)]:
        return False
    bad = bad_rests(game, nexts, wished)
    for place, number in enumerate(numbers):
        if number is not None and (place in bad or not are_less([numbers[goal] for goal in nexts[place]], number)):
            return False
    return True


def are_less(numbers, bound):
    """Return whether none of some numbers is None and all are less than a bound."""
    return None not in numbers and all([number < bound for number in numbers])


def stray(game, first, wished):
    """Return a row of betterings that does not end as wished, with a ring if it does not end at all, or None."""
    nexts = better(game, False)
    found = lengths_to(game, nexts, wished)
    starts = [place for place in beginnings(game, first) if found[place] is None]
    if not starts:
        return None
    for place in bad_rests(game, nexts, wished):
        places = path(nexts, starts[0], place)
        if places is not None:
            return (row_through(game, places), None)
    # No end is a bad one, so where the numbers have no end the betterings have none.
    places = starts[:1]
    while places[-1] not in places[:-1]:
        places.append([goal for goal in nexts[places[-1]] if found[goal] is None][0])
    at = places.index(places[-1])
    return (row_through(game, places[:at + 1]), row_through(game, places[at:]))


def is_stray(game, first, wished, thing):
    """Return whether any value is a row of betterings, and a ring or None, that do not end as wished."""
    if not isinstance(thing, tuple) or len(thing) != 2:
        return False
    row, ring = thing
    try:
        places = walked(game, row)
    except (Wrong, NoStanding, NoStep):
        return False
    nexts = better(game, False)
    if not begins(game, first, places[0]) or not are_steps(game, nexts, places):
        return False
    if ring is None:
        return place_of(game, places[-1]) in bad_rests(game, nexts, wished)
    return is_bettering_ring(game, ring) and tuple(ring[0]) == places[-1]


def firsts(game, wished):
    """Return first ways that lead to wished standings, of as few choosers as possible, the least of these, or None."""
    found = lengths_to(game, better(game, False), wished)
    bad = bits_of([place for place, number in enumerate(found) if number is None])
    having = {}
    for chooser in game.choosers():
        for way in game.ways(chooser):
            having[(chooser, way)] = bits_of(beginnings(game, {chooser: way}))
    # With the first ways tried go the bad beginnings that they have.
    tried = [((), bad)]
    while tried:
        for first, left in tried:
            if left == 0:
                return first
        # From ascending ones of some choosers come ascending ones of one more.
        tried = [(first + (pair,), left & having[pair]) for first, left in tried for pair in having
                 if not first or pair[0] > first[-1][0]]
    return None
