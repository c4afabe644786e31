"""What texts were shown from."""

from heightgames.errors import NoText, Wrong
from heightgames.games import Game
from heightgames.kinds import are_names, is_change, is_row
from heightgames.notation import show_game

MOST_DIGITS = 60


def read_standing(text):
    """Return the standing of which a text tells."""
    names = parted(text, ",")
    if not are_names(names):
        raise NoText()
    return tuple(names)


def read_change(text):
    """Return the change of which a text tells."""
    names = parted(text, ".")
    if not is_change(names):
        raise NoText()
    return tuple(names)


def read_row(text):
    """Return the row of which a text tells."""
    words = parted(text, " ")
    row = (read_standing(words[0]), [read_change(word) for word in words[1:]])
    if not is_row(row):
        raise NoText()
    return row


def parted(text, sign):
    """Return the list of the parts of a text, any value, between signs."""
    if not isinstance(text, str):
        raise NoText()
    return text.split(sign)


def read_game(text):
    """Return the Game of which a text tells."""
    ways, gains = {}, {}
    for line in parted(text, "\n")[:-1]:
        words = line.split(" ")
        if words[0] == "chooser" and len(words) > 2:
            ways[words[1]] = words[2:]
        elif words[0] == "at" and len(words) > 2:
            gains[read_standing(words[1])] = [read_number(word) for word in words[2:]]
        else:
            raise NoText()
    try:
        game = Game(ways, gains)
    except Wrong:
        raise NoText() from None
    # What is told otherwise than it is shown, such as in another order, tells of nothing.
    if show_game(game) != text:
        raise NoText()
    return game


def read_number(word):
    """Return the integer of which a word tells."""
    digits = word[1:] if word.startswith("-") else word
    if not digits.isascii() or not digits.isdigit() or len(digits) > MOST_DIGITS:
        raise NoText()
    return int(word)
