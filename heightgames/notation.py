"""What standings, changes, rows and games are as texts."""


def show_standing(standing):
    """Return the text of a standing."""
    return ",".join(standing)


def show_change(change):
    """Return the text of a change."""
    return f"{change[0]}.{change[1]}"


def show_row(row):
    """Return the text of a row."""
    return " ".join([show_standing(row[0])] + [show_change(change) for change in row[1]])


def show_numbers(numbers):
    """Return the text of some numbers."""
    return " ".join([str(number) for number in numbers])


def show_game(game):
    """Return the text of a game, a line feed behind each line."""
    lines = [" ".join(["chooser", chooser] + game.ways(chooser)) for chooser in game.choosers()]
    for standing in game.standings():
        lines.append(f"at {show_standing(standing)} {show_numbers(game.gains(standing))}")
    return "".join([line + "\n" for line in lines])
