"""Games led move by move, and a desk that takes commands about them."""

from heightgames.betterings import betterings, rests
from heightgames.climbs import climb
from heightgames.errors import Full, NoChange, NoCommand, NoStanding, NoText, Nothing, Wrong
from heightgames.far import far
from heightgames.games import Game
from heightgames.heights import height
from heightgames.kinds import MOST_CHANGES
from heightgames.notation import show_change, show_numbers, show_row, show_standing
from heightgames.readers import read_change, read_game, read_standing
from heightgames.signs import sign_height
from heightgames.weights import weights

ALONE = ("back", "again", "where", "row", "gains", "better", "best", "rests", "kind", "far")


class Walk:
    """A game led move by move from a standing."""

    def __init__(self, game, standing):
        if not isinstance(game, Game):
            raise Wrong(0)
        if standing not in game:
            raise Wrong(1)
        self.ground = game
        self.stops = [standing]
        self.done = []
        self.undone = []

    @property
    def here(self):
        """The standing now."""
        return self.stops[-1]

    def go(self, change):
        """Do a change, and return its own gain."""
        own = self.ground.own(self.here, change)
        if len(self.done) >= MOST_CHANGES:
            raise Full(MOST_CHANGES)
        self.move(tuple(change))
        self.undone.clear()
        return own

    def move(self, change):
        """Do a change that can be done."""
        self.stops.append(self.ground.goal(self.here, change))
        self.done.append(change)

    def back(self):
        """Undo the last change, and return it."""
        if not self.done:
            raise Nothing()
        self.stops.pop()
        self.undone.append(self.done.pop())
        return self.undone[-1]

    def again(self):
        """Do the change again that was undone last, and return it."""
        if not self.undone:
            raise Nothing()
        self.move(self.undone.pop())
        return self.done[-1]

    def row(self):
        """Return the row so far."""
        return (self.stops[0], list(self.done))

    def gained(self):
        """Return the dict from all choosers to the sums of the own gains of their changes."""
        found = {chooser: 0 for chooser in self.ground.choosers()}
        for standing, change in zip(self.stops, self.done):
            found[change[0]] += self.ground.own(standing, change)
        return found


class Desk:
    """A Walk, at first none, that commands are about."""

    def __init__(self):
        self.walk = None

    def execute(self, line):
        """Carry out a command, and return the answer."""
        word, thing = read_command(line)
        if word == "chooser":
            self.walk = Walk(thing, thing.standings()[0])
            return "ok"
        if self.walk is None:
            return "refused"
        try:
            return self.answer(word, thing)
        except (NoStanding, NoChange, Full, Nothing):
            return "refused"

    def answer(self, word, thing):
        """Return the answer to a command about the Walk."""
        if word == "start":
            self.walk.ground.check_standing(thing)
            self.walk = Walk(self.walk.ground, thing)
            return "ok"
        if word == "go":
            return str(self.walk.go(thing))
        if word == "back":
            return show_change(self.walk.back())
        if word == "again":
            return show_change(self.walk.again())
        if word == "row":
            return show_row(self.walk.row())
        return told_of(self.walk.ground, self.walk.here, word)


def read_command(line):
    """Return the tuple of the first word of a command, any value, and of what it is about, or None."""
    if not isinstance(line, str):
        raise NoCommand()
    if line in ALONE:
        return (line, None)
    word, blank, rest = line.partition(" ")
    try:
        if word == "chooser":
            return (word, read_game(line + "\n"))
        if word == "start":
            return (word, read_standing(rest))
        if word == "go":
            return (word, read_change(rest))
    except NoText:
        raise NoCommand() from None
    raise NoCommand()


def told_of(game, standing, word):
    """Return what a word asks about a game and a standing."""
    if word == "where":
        return show_standing(standing)
    if word == "gains":
        return show_numbers(game.gains(standing))
    if word == "rests":
        return listed([show_standing(place) for place in rests(game)])
    if word == "kind":
        return kind_of(game)
    if word == "far":
        return show_numbers(far(game))
    return listed([show_change(change) for change in betterings(game, standing, best=(word == "best"))])


def listed(words):
    """Return words joined by blanks, or a minus sign if there are none."""
    return " ".join(words) if words else "-"


def kind_of(game):
    """Return the word for the first kind of height that a game has."""
    if height(game) is not None:
        return "steps"
    if weights(game) is not None:
        return "weights"
    if sign_height(game) is not None:
        return "signs"
    if climb(game) is not None:
        return "betterings"
    return "none" if climb(game, best=True) is None else "best"
