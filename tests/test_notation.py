"""Point 102: standings, changes, rows and games as texts, and back."""

import re
import unittest

from heightgames.errors import NoText
from heightgames.games import Game
from heightgames.notation import show_change, show_game, show_row, show_standing
from heightgames.readers import read_change, read_game, read_row, read_standing
from tests.samples import (
    GREAT, MAKERS, SIZES, SOME_SIZES, Checks, any_game, drawing, flee, lone, meet, odd_values, standings_of, walk,
)

READERS = (read_standing, read_change, read_row, read_game)
NAME = "[a-z]{1,8}"
STANDING = f"{NAME}(,{NAME}){{0,3}}"
CHANGE = rf"{NAME}\.{NAME}"
# The text of lone, and how its lines may be changed.
TEXT = "chooser c u v\nat u 0\nat v 1\n"


def is_game_text(text):
    """Whether a text is that of a game with numbers of at most sixty digits."""
    found = re.fullmatch(rf"((?:chooser {NAME}(?: {NAME}){{1,4}}\n){{1,4}})((?:at {STANDING}(?: (?:0|-?[1-9][0-9]{{0,59}}))+\n)+)", text)
    if found is None:
        return False
    shape = {line.split()[1]: line.split()[2:] for line in found[1].splitlines()}
    if list(shape) != sorted(shape) or len(shape) != found[1].count("\n"):
        return False
    if any(ways != sorted(set(ways)) for ways in shape.values()):
        return False
    rows = [line.split()[1:] for line in found[2].splitlines()]
    if any(len(row) != len(shape) + 1 for row in rows):
        return False
    return [tuple(row[0].split(",")) for row in rows] == standings_of(shape) and len(rows) <= 81


def near_texts(text, signs):
    """The text with a sign out, one more, or another one."""
    found = [text + text, text[::-1], text.upper(), text + "\n" + text]
    for at in range(len(text) + 1):
        found.extend(text[:at] + sign + text[at:] for sign in signs)
        found.append(text[:at] + text[at + 1:])
        found.extend(text[:at] + sign + text[at + 1:] for sign in signs)
    return found


class Standings(Checks):
    def test_shown_and_read(self):
        for names, text in ((("l",), "l"), (("l", "r"), "l,r"), (("abcdefgh", "z", "z"), "abcdefgh,z,z"), (("a", "b", "c", "d"), "a,b,c,d")):
            self.exact(self.unchanged(show_standing, names), text)
            self.exact(read_standing(text), names)
        for sizes in SIZES[::7]:
            for standing in any_game(drawing(1801), sizes):
                self.exact(show_standing(standing), ",".join(standing))
                self.exact(read_standing(show_standing(standing)), standing)

    def test_near_texts(self):
        seen = set()
        for text in ("l", "l,r", "abcdefgh,z", "a,b,c,d", "a,b,c"):
            for near in near_texts(text, ",. \nlzA-0{~"):
                seen.add(self.check(near))
        self.assertEqual(seen, {True, False})

    def check(self, text):
        if re.fullmatch(STANDING, text):
            self.exact(read_standing(text), tuple(text.split(",")))
            return True
        self.raised(NoText, read_standing, text)
        return False


class Changes(Checks):
    def test_shown_and_read(self):
        for change, text in ((("a", "l"), "a.l"), (("abcdefgh", "stuvwxyz"), "abcdefgh.stuvwxyz"), (["b", "r"], "b.r"), (("a", "a"), "a.a")):
            self.exact(self.unchanged(show_change, change), text)
            self.exact(read_change(text), tuple(change))

    def test_near_texts(self):
        seen = set()
        for text in ("a.l", "abcdefgh.stuvwxyz", "ann.east"):
            for near in near_texts(text, ".,| \nlZ1"):
                seen.add(bool(re.fullmatch(CHANGE, near)))
                if re.fullmatch(CHANGE, near):
                    self.exact(read_change(near), tuple(near.split(".")))
                else:
                    self.raised(NoText, read_change, near)
        self.assertEqual(seen, {True, False})


class Rows(Checks):
    def test_shown_and_read(self):
        draw = drawing(1821)
        for sizes in SOME_SIZES:
            game = any_game(draw, sizes)
            for many in (0, 1, 2, 7, 60, 199, 200):
                standing = draw.choice(game.standings())
                row = (standing, walk(draw, game, standing, many))
                text = " ".join([",".join(standing)] + [f"{chooser}.{way}" for chooser, way in row[1]])
                self.exact(self.unchanged(show_row, row), text)
                self.exact(show_row([list(standing), [list(change) for change in row[1]]]), text)
                self.exact(show_row((standing, tuple(row[1]))), text)
                self.exact(read_row(text), row)

    def test_by_their_form(self):
        # Whatever choosers and ways: rows are read by their form alone.
        self.exact(read_row("a"), (("a",), []))
        self.exact(read_row("a,a,a,a z.z z.z"), (("a", "a", "a", "a"), [("z", "z"), ("z", "z")]))
        self.exact(read_row("l" + " a.l" * 200), (("l",), [("a", "l")] * 200))
        self.raised(NoText, read_row, "l" + " a.l" * 201)
        self.raised(NoText, read_row, "l" + " a.l" * 2000)

    def test_near_texts(self):
        seen = set()
        for text in ("l", "l,r a.r", "a,b,c,d b.z a.y", "l a.r b.l a.l"):
            for near in near_texts(text, " .,\nlZ-"):
                fits = re.fullmatch(rf"{STANDING}( {CHANGE}){{0,200}}", near) is not None
                seen.add(fits)
                if fits:
                    self.exact(show_row(read_row(near)), near)
                    self.exact(read_row(near)[0], tuple(near.split(" ")[0].split(",")))
                else:
                    self.raised(NoText, read_row, near)
        self.assertEqual(seen, {True, False})

    def test_what_is_read_is_new(self):
        self.new_each_time(read_row, "l,r a.r b.l")


class Games(Checks):
    def test_shown_and_read(self):
        draw = drawing(1831)
        for sizes in SIZES[::4]:
            for make in (MAKERS[0], MAKERS[2]):
                for bound in (1, 9, GREAT // 100):
                    game = make(draw, sizes, bound)
                    text = self.unchanged(show_game, game)
                    self.exact(text.count("\n"), len(sizes) + len(game))
                    self.assertTrue(is_game_text(text))
                    self.assertEqual(read_game(text), game)

    def test_the_form(self):
        self.exact(show_game(lone()), TEXT)
        self.exact(show_game(Game({"b": ["r", "l"], "a": ["x"]}, {("x", "l"): (-1, 20), ("x", "r"): (0, -300)})),
                   "chooser a x\nchooser b l r\nat x,l -1 20\nat x,r 0 -300\n")
        self.exact(show_game(Game({"a": ["l"]}, {("l",): [7]})), "chooser a l\nat l 7\n")
        self.assertEqual(read_game("chooser a l\nat l -7\n"), Game({"a": ["l"]}, {("l",): [-7]}))

    def check(self, text):
        if is_game_text(text):
            self.exact(show_game(read_game(text)), text)
            return True
        self.raised(NoText, read_game, text)
        return False

    def test_near_texts(self):
        seen = set()
        for game in (lone(), flee(), Game({"a": ["l"]}, {("l",): [-10]}), any_game(drawing(1832), (2, 1, 2), 12)):
            for near in near_texts(show_game(game), " \n,.-+0123aluvz"):
                seen.add(self.check(near))
        self.assertEqual(seen, {True, False})

    def test_lines_otherwise(self):
        draw = drawing(1833)
        for game in (lone(), meet(), any_game(draw, (2, 3)), any_game(draw, (1, 2, 2), GREAT // 100)):
            lines = show_game(game).splitlines(True)
            self.assertTrue(self.check("".join(lines)))
            for at in range(len(lines)):
                self.assertFalse(self.check("".join(lines[:at] + lines[at + 1:])))
                self.assertFalse(self.check("".join(lines[:at] + lines[at:at + 1] + lines[at:])))
                for other in range(at):
                    swapped = list(lines)
                    swapped[at], swapped[other] = lines[other], lines[at]
                    self.assertFalse(self.check("".join(swapped)))
                words = lines[at].split()
                if words[0] == "chooser" and len(words) > 3:
                    turned = words[:2] + words[:1:-1]
                    self.assertFalse(self.check("".join(lines[:at] + [" ".join(turned) + "\n"] + lines[at + 1:])))
                for changed in (words + words[-1:], words[:-1], words[:1] + [""] + words[1:], words + [""], [""] + words, ["At"] + words[1:]):
                    self.assertFalse(self.check("".join(lines[:at] + [" ".join(changed) + "\n"] + lines[at + 1:])))

    def test_numbers(self):
        digits = "9" * 60
        for word, fits in (("0", True), ("-1", True), ("10", True), (digits, True), ("-" + digits, True), ("1" + "0" * 59, True),
                           (digits + "9", False), ("-" + digits + "9", False), ("1" + "0" * 60, False), ("-0", False), ("00", False), ("01", False),
                           ("-01", False), ("0" * 61, False), ("0" + digits, False), ("+1", False), ("--1", False), ("-", False), ("", False),
                           ("1_0", False), ("1.0", False), ("1e3", False), ("0x1", False), ("a", False), ("1,0", False), (" 1", False), ("1 ", False),
                           ("1" * 9000, False), ("None", False), ("True", False)):
            text = f"chooser c u v\nat u {word}\nat v 1\n"
            self.assertIs(self.check(text), fits)
            if fits:
                self.exact(read_game(text).gains(("u",)), (int(word),))
        # What is shown with a longer number is not read.
        great = Game({"c": ["u"]}, {("u",): (GREAT,)})
        self.exact(show_game(great), f"chooser c u\nat u {GREAT}\n")
        self.raised(NoText, read_game, show_game(great))
        self.assertEqual(read_game(show_game(great.with_gains(("u",), [1 - GREAT]))).gains(("u",)), (1 - GREAT,))

    def test_shapes_that_are_none(self):
        for text in ("chooser a\nat l 1\n", "chooser a l m n o p\n" + "".join(f"at {way} 0\n" for way in "lmnop"), "chooser abcdefghi l\nat l 0\n",
                     "chooser a l l\nat l 0\nat l 0\n", "chooser a l\nchooser a l\nat l,l 0 0\n", "chooser a l\n", "at l 0\n", "", "\n", "chooser\n",
                     "at\n", "chooser a l\nat l 0", "chooser a l\nat l 0\n\n", "\nchooser a l\nat l 0\n", "chooser a l\n\nat l 0\n", "at l 0\nchooser a l\n",
                     "chooser a l\nat l,l 0\n", "chooser a l\nat m 0\n", "chooser a l\nat l 0 0\n", "chooser a l\tat l 0\n", "chooser A l\nat l 0\n",
                     "chooser  a l\nat l 0\n", "Chooser a l\nat l 0\n", "chooser a l\r\nat l 0\r\n",
                     "".join(f"chooser {name} l\n" for name in "abcde") + "at l,l,l,l,l 0 0 0 0 0\n"):
            self.assertFalse(self.check(text))
        wide = {"a": "lmno", "b": "lmno", "c": "lmno", "d": "lm"}
        text = "".join(f"chooser {name} {' '.join(ways)}\n" for name, ways in wide.items())
        text += "".join(f"at {','.join(standing)} 0 0 0 0\n" for standing in standings_of({name: list(ways) for name, ways in wide.items()}))
        self.raised(NoText, read_game, text)


class AnyValues(Checks):
    def test_values_of_other_kinds(self):
        for thing in odd_values():
            for call in READERS:
                if thing.__class__ is not str:
                    self.raised(NoText, call, thing)
        for thing in (["l", "r"], ("l", "r"), b"l", ("a", "l"), (("l",), []), meet(), [TEXT], 0, None):
            for call in READERS:
                self.raised(NoText, call, thing)

    def test_texts_of_the_others(self):
        texts = {read_standing: "l,r", read_change: "a.l", read_row: "l,r a.r", read_game: TEXT}
        for call, text in texts.items():
            for other in READERS:
                if other is call or (call is read_standing and other is read_row):
                    other(text)
                else:
                    self.raised(NoText, other, text)
        self.exact(read_row("l,r"), (("l", "r"), []))
        self.exact(read_standing("l"), ("l",))

    def test_any_texts(self):
        for text in [thing for thing in odd_values() if thing.__class__ is str] + ["." * 9999, "," * 9999, " " * 9999, "\n" * 9999, "a." * 5000]:
            for call, form in ((read_standing, STANDING), (read_change, CHANGE), (read_row, rf"{STANDING}( {CHANGE}){{0,200}}")):
                if re.fullmatch(form, text):
                    call(text)
                else:
                    self.raised(NoText, call, text)
            self.raised(NoText, read_game, text)


if __name__ == "__main__":
    unittest.main()
