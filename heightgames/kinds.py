"""What values are, by their form alone."""

MOST_LETTERS = 8
MOST_NAMES = 4
MOST_STANDINGS = 81
MOST_CHANGES = 200


def is_integer(thing):
    """Return whether thing is an int that is not True or False."""
    return isinstance(thing, int) and not isinstance(thing, bool)


def is_name(thing):
    """Return whether thing is a string of one to eight letters a to z."""
    if not isinstance(thing, str) or len(thing) > MOST_LETTERS:
        return False
    return thing.isascii() and thing.isalpha() and thing.islower()


def are_names(thing):
    """Return whether thing is a list or tuple of one to four names."""
    if not isinstance(thing, (list, tuple)) or not 1 <= len(thing) <= MOST_NAMES:
        return False
    return all([is_name(item) for item in thing])


def is_shape(thing):
    """Return whether thing is a dict from choosers to their ways, with few enough standings."""
    if not isinstance(thing, dict) or not are_names(list(thing)):
        return False
    many = 1
    for ways in thing.values():
        if not are_names(ways) or len(set(ways)) < len(ways):
            return False
        many = many * len(ways)
    return many <= MOST_STANDINGS


def is_change(thing):
    """Return whether thing is a tuple or list of two names."""
    return are_names(thing) and len(thing) == 2


def is_row(thing):
    """Return whether thing is a tuple or list of a standing and changes, of whatever choosers."""
    if not isinstance(thing, (tuple, list)) or len(thing) != 2:
        return False
    if not are_names(thing[0]) or not isinstance(thing[1], (list, tuple)):
        return False
    return len(thing[1]) <= MOST_CHANGES and all([is_change(item) for item in thing[1]])
