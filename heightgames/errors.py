"""All errors of the package; each keeps what it was made of."""


class HeightError(ValueError):
    """What all errors of the package are; never raised itself."""


class Wrong(HeightError):
    """The argument at a place is not as described."""

    def __init__(self, place):
        self.place = place


class NoChooser(HeightError):
    """There is no such chooser."""

    def __init__(self, name):
        self.name = name


class NoWay(HeightError):
    """The chooser has no such way."""

    def __init__(self, name):
        self.name = name


class NoStanding(HeightError):
    """There is no such standing."""

    def __init__(self, standing):
        self.standing = standing


class NoChange(HeightError):
    """No such change can be done at the standing."""

    def __init__(self, change):
        self.change = change


class NoLine(HeightError):
    """There is no such line."""

    def __init__(self, line):
        self.line = line


class NoStep(HeightError):
    """The change at an index of a row cannot be done where it comes."""

    def __init__(self, index):
        self.index = index


class Unlike(HeightError):
    """Two games have different shapes."""


class NoSquare(HeightError):
    """There is no such square."""

    def __init__(self, square):
        self.square = square


class NoRing(HeightError):
    """There is no such ring."""

    def __init__(self, ring):
        self.ring = ring


class NoHeight(HeightError):
    """There is no height."""


class NoRoad(HeightError):
    """There is no such road."""

    def __init__(self, name):
        self.name = name


class NoPair(HeightError):
    """There is no such pair of choosers."""

    def __init__(self, pair):
        self.pair = pair


class NoTies(HeightError):
    """No ties tell the game."""


class NoOrder(HeightError):
    """There is no such order of the line."""

    def __init__(self, order):
        self.order = order


class Untold(HeightError):
    """Nothing is told of the line."""

    def __init__(self, line):
        self.line = line


class Clash(HeightError):
    """Two games have a chooser of the same name."""

    def __init__(self, name):
        self.name = name


class TooWide(HeightError):
    """A game would have too many choosers or standings."""


class Nothing(HeightError):
    """There is nothing to take back or to do again."""


class NoText(HeightError):
    """The value is shown for nothing."""


class Full(HeightError):
    """There are as many as the limit allows already."""

    def __init__(self, limit):
        self.limit = limit


class NoCommand(HeightError):
    """There is no such command."""
