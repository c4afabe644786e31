"""Point 103: games led move by move, and a desk that takes commands about them."""

import unittest

from heightgames.betterings import betterings, rests
from heightgames.climbs import climb
from heightgames.desk import Desk, Walk
from heightgames.errors import Full, NoChange, NoCommand, Nothing
from heightgames.far import far
from heightgames.games import Game
from heightgames.heights import height
from heightgames.notation import show_change, show_game, show_row, show_standing
from heightgames.readers import read_game
from heightgames.signs import sign_height
from heightgames.weights import weights
from tests.samples import (
    GREAT, MAKERS, SOME_SIZES, Checks, any_game, best_game, climbing_game, drawing, flee, lone, meet, odd_values,
    side_by_side, signed_game, spoil, steep_game, weighted_game,
)

ALONE = ("back", "again", "where", "row", "gains", "better", "best", "rests", "kind", "far")


def text_of(game):
    return show_game(game)[:-1]


class Model:
    """What a Walk is, told plainly: all changes done so far, and those undone."""

    def __init__(self, game, standing):
        self.game, self.start, self.changes, self.undone = game, standing, [], []

    def place(self, many=None):
        standing = self.start
        for change in self.changes[:many]:
            standing = self.game.goal(standing, change)
        return standing

    def gained(self):
        found = {chooser: 0 for chooser in self.game.choosers()}
        for at, change in enumerate(self.changes):
            found[change[0]] += self.game.own(self.place(at), change)
        return found


class Walks(Checks):
    def same(self, walk, model):
        self.exact(walk.here, model.place())
        self.exact(walk.row(), (model.start, model.changes))
        self.exact(walk.gained(), model.gained())

    def go(self, walk, model, change):
        own = model.game.own(model.place(), change)
        self.exact(walk.go(change), own)
        model.changes.append(tuple(change))
        model.undone.clear()

    def step(self, draw, walk, model):
        """Go on, back or again, at random."""
        choice = model.game.changes(walk.here)
        word = draw.choice(("go", "go", "back", "again", "again", "no change"))
        if word == "go" and choice:
            change = draw.choice(choice)
            self.go(walk, model, list(change) if draw.randrange(2) else change)
        elif word == "back":
            if model.changes:
                model.undone.append(model.changes.pop())
                self.exact(walk.back(), model.undone[-1])
            else:
                self.raised(Nothing, walk.back)
        elif word == "again":
            if model.undone:
                model.changes.append(model.undone.pop())
                self.exact(walk.again(), model.changes[-1])
            else:
                self.raised(Nothing, walk.again)
        else:
            thing = draw.choice([None, ("zoe", "z"), (model.game.choosers()[0], walk.here[0]), [], ("a",)])
            self.assertIs(self.raised(NoChange, walk.go, thing).change, thing)

    def test_games_at_random(self):
        draw = drawing(1901)
        for sizes in SOME_SIZES:
            for bound in (9, GREAT):
                game = any_game(draw, sizes, bound)
                standing = draw.choice(game.standings())
                walk, model = Walk(game, standing), Model(game, standing)
                self.same(walk, model)
                for _ in range(50):
                    self.step(draw, walk, model)
                    self.same(walk, model)

    def test_back_and_again(self):
        walk = Walk(flee(), ("l", "l"))
        for change in (("b", "r"), ("a", "r"), ("b", "l")):
            self.exact(walk.go(change), 1)
        self.exact(walk.gained(), {"a": 1, "b": 2})
        self.exact([walk.back(), walk.back(), walk.back()], [("b", "l"), ("a", "r"), ("b", "r")])
        self.raised(Nothing, walk.back)
        self.exact(walk.here, ("l", "l"))
        # All that was undone can be done again.
        self.exact([walk.again(), walk.again(), walk.again()], [("b", "r"), ("a", "r"), ("b", "l")])
        self.raised(Nothing, walk.again)
        self.exact(walk.here, ("r", "l"))
        walk.back()
        walk.back()
        self.raised(NoChange, walk.go, ("a", "l"))
        self.exact(walk.again(), ("a", "r"))
        walk.back()
        self.exact(walk.go(("a", "r")), 1)
        self.raised(Nothing, walk.again)
        self.exact(walk.row(), (("l", "l"), [("b", "r"), ("a", "r")]))

    def test_full(self):
        walk = Walk(lone(), ("u",))
        for at in range(200):
            self.exact(walk.go(("c", "uv"[at % 2 == 0])), (-1) ** at)
        for change in (("c", "v"), ["c", "v"]):
            self.exact(self.raised(Full, walk.go, change).limit, 200)
        # What cannot be done comes first.
        for change in (("c", "u"), None, ("c", "x"), []):
            self.assertIs(self.raised(NoChange, walk.go, change).change, change)
        self.exact(walk.here, ("u",))
        self.assertEqual(len(walk.row()[1]), 200)
        self.exact(walk.gained(), {"c": 0})
        self.exact(walk.back(), ("c", "u"))
        self.raised(NoChange, walk.go, ("c", "v"))
        self.exact(walk.again(), ("c", "u"))
        self.raised(Full, walk.go, ("c", "v"))
        self.raised(Nothing, walk.again)
        walk.back()
        self.exact(walk.go(("c", "u")), -1)

    def test_what_is_no_game_and_no_standing(self):
        for thing in odd_values():
            if thing.__class__ is not Game:
                for standing in (("l", "l"), None):
                    self.wrong_at(0, Walk, thing, standing)
            for game in (meet(), lone()):
                if thing not in game:
                    self.wrong_at(1, Walk, game, thing)

    def test_what_is_no_change(self):
        walk = Walk(meet(), ("l", "r"))
        walk.go(("a", "r"))
        walk.back()
        for thing in odd_values() + [("a", "l"), ("b", "r"), ["b", "r"], ("c", "l"), ("a", "x"), ("a", "r", "r")]:
            if thing not in (("a", "r"), ["a", "r"], ("b", "l"), ["b", "l"]):
                self.assertIs(self.raised(NoChange, walk.go, thing).change, thing)
        self.exact((walk.here, walk.row()), (("l", "r"), (("l", "r"), [])))
        self.exact(walk.again(), ("a", "r"))

    def test_edges(self):
        still = Walk(Game({"a": ["l"]}, {("l",): [7]}), ("l",))
        self.exact((still.here, still.row(), still.gained()), (("l",), (("l",), []), {"a": 0}))
        for call in (still.back, still.again):
            self.raised(Nothing, call)
        self.raised(NoChange, still.go, ("a", "l"))

    def test_what_is_returned_is_new(self):
        walk = Walk(meet(), ("l", "r"))
        change = ["a", "r"]
        walk.go(change)
        change[1] = "l"
        for call in (walk.row, walk.gained):
            found = call()
            spoil(found)
            self.exact((walk.row(), walk.gained()), ((("l", "r"), [("a", "r")]), {"a": 1, "b": 0}))
        self.exact(walk.back(), ("a", "r"))


class Desks(Checks):
    def told(self, desk, *pairs):
        """What a desk answers to commands, one behind the other."""
        for line, answer in pairs:
            self.exact(desk.execute(line), answer)

    def state(self, desk):
        return [desk.execute(line) for line in ("where", "row", "gains", "better", "best", "rests", "kind", "far")]

    def test_the_document(self):
        self.told(Desk(), ("chooser c u v\nat u 0\nat v 1", "ok"), ("better", "c.v"), ("go c.v", "1"), ("rests", "v"))

    def test_all_commands(self):
        self.told(Desk(), (text_of(flee()), "ok"), ("where", "l,l"), ("row", "l,l"), ("gains", "1 0"), ("better", "b.r"), ("best", "b.r"),
                  ("rests", "-"), ("kind", "none"), ("far", "1 1"), ("go b.r", "1"), ("go a.r", "1"), ("where", "r,r"), ("row", "l,l b.r a.r"),
                  ("gains", "1 0"), ("back", "a.r"), ("back", "b.r"), ("back", "refused"), ("again", "b.r"), ("again", "a.r"),
                  ("again", "refused"), ("go a.l", "-1"), ("row", "l,l b.r a.r a.l"), ("start r,l", "ok"), ("row", "r,l"), ("again", "refused"),
                  ("gains", "0 1"), ("better", "a.l"), ("back", "refused"))
        self.told(Desk(), (text_of(meet()), "ok"), ("rests", "l,l r,r"), ("better", "-"), ("best", "-"), ("start l,r", "ok"),
                  ("better", "a.r b.l"), ("best", "a.r b.l"), ("kind", "steps"), ("far", "0 1"), ("go a.r", "1"), ("better", "-"))
        line = Game({"c": ["t", "u", "v"]}, {("t",): [5], ("u",): [1], ("v",): [GREAT // 10]})
        self.told(Desk(), (text_of(line), "ok"), ("start u", "ok"), ("better", "c.t c.v"), ("best", "c.v"), ("go c.v", str(GREAT // 10 - 1)))

    def test_answers(self):
        draw = drawing(1911)
        for sizes in SOME_SIZES[::2]:
            for make in MAKERS:
                game = make(draw, sizes, 9)
                desk = Desk()
                self.told(desk, (text_of(game), "ok"), ("where", show_standing(game.standings()[0])))
                standing = draw.choice(game.standings())
                self.told(desk, ("start " + show_standing(standing), "ok"))
                for _ in range(8):
                    if game.changes(standing):
                        change = draw.choice(game.changes(standing))
                        self.told(desk, ("go " + show_change(change), str(game.own(standing, change))))
                        standing = game.goal(standing, change)
                    self.told(desk, ("where", show_standing(standing)), ("gains", " ".join(str(gain) for gain in game.gains(standing))))
                    for word in ("better", "best"):
                        found = betterings(game, standing, best=word == "best")
                        self.told(desk, (word, " ".join(show_change(change) for change in found) or "-"))
                self.told(desk, ("rests", " ".join(show_standing(place) for place in rests(game)) or "-"),
                          ("far", " ".join(str(number) for number in far(game))), ("kind", self.kind(game)))

    def kind(self, game):
        for word, found in (("steps", height(game)), ("weights", weights(game)), ("signs", sign_height(game)), ("betterings", climb(game)),
                            ("best", climb(game, best=True))):
            if found is not None:
                return word
        return "none"

    def test_each_kind(self):
        draw = drawing(1912)
        seen = {}
        for make in (steep_game, weighted_game, signed_game, climbing_game, best_game, any_game):
            for sizes in ((2, 2), (3, 3), (2, 2, 2), (3, 3, 3)):
                for _ in range(6):
                    game = make(draw, sizes, 3)
                    desk = Desk()
                    desk.execute(text_of(game))
                    seen.setdefault(desk.execute("kind"), []).append(make)
                    self.exact(desk.execute("kind"), self.kind(game))
        self.assertEqual(set(seen), {"steps", "weights", "signs", "betterings", "best", "none"})

    def test_ahead_of_any_game(self):
        desk = Desk()
        for line in ALONE + ("start l", "start l,r", "go a.l", "go zz.zz", "start a,b,c,d"):
            self.told(desk, (line, "refused"))
        self.told(desk, (text_of(lone()), "ok"), ("where", "u"))

    def test_refused(self):
        desk = Desk()
        self.told(desk, (text_of(meet()), "ok"), ("start l,r", "ok"), ("go a.r", "1"), ("go b.l", "-1"), ("back", "b.l"))
        kept = self.state(desk)
        for line in ("start x", "start l", "start l,l,l", "start l,x", "start r,m", "go a.r", "go b.r", "go c.l", "go a.x", "go l.a"):
            self.told(desk, (line, "refused"))
            self.exact(self.state(desk), kept)
        self.told(desk, ("again", "b.l"), ("again", "refused"), ("row", "l,r a.r b.l"))

    def test_full(self):
        desk = Desk()
        self.told(desk, (text_of(lone()), "ok"))
        for at in range(200):
            self.told(desk, ("go c." + "vu"[at % 2], "1" if at % 2 == 0 else "-1"))
        self.told(desk, ("go c.v", "refused"), ("go c.u", "refused"), ("where", "u"), ("back", "c.u"), ("again", "c.u"), ("go c.v", "refused"))
        self.exact(desk.execute("row"), show_row((("u",), [("c", "v"), ("c", "u")] * 100)))

    def test_what_is_no_command(self):
        lines = [line + more for line in ALONE for more in (" ", "\n", " l", "s ", ".", " -", "\t")]
        lines += [more + line for line in ALONE for more in (" ", "\n", "go ", "start a.")]
        lines += [line.upper() for line in ALONE] + [line.title() for line in ALONE] + [line[:-1] for line in ALONE if line[:-1] not in ALONE]
        lines += ["start", "start ", "start  l", "start l ", "start l\n", "start L", "start l,", "start ,l", "start l r", "start a.l", "start a,b,c,d,e",
                  "start abcdefghi", "START l", "Start l", "start\nl", "go", "go ", "go  a.l", "go a.l ", "go a.l\n", "go a", "go a,l", "go a.l.r",
                  "go a.", "go .l", "go A.l", "go a.L", "go a.l b.r", "GO a.l", "go\na.l", "go a l", "chooser", "chooser ", "chooser c u v", "at u 0",
                  "", " ", "\n", "-", "ok", "refused", "l", "a.l", "0", "help", "quit", "rests\nrests", "go c.v\ngo c.u", "gone", "go1", "startl"]
        text = text_of(lone())
        lines += [text + "\n", text + " ", text + "\n\n", "\n" + text, " " + text, text.upper(), text.replace("u", "U"), text.replace(" ", "  "),
                  text.replace("0", "00"), text.replace("0", "-0"), text.replace("1", "1" * 61), text.replace("u v", "v u"), text[:-2], text[:-1] + "x",
                  "\n".join(text.split("\n")[::-1]), text + "\nat v 1", text.replace("chooser", "Chooser"), text.replace("\n", " "), text + "\nwhere"]
        for desk in (Desk(), self.begun()):
            for line in lines + [thing for thing in odd_values() if thing not in ALONE]:
                self.raised(NoCommand, desk.execute, line)
        for thing in (b"where", ["where"], ("where",), {"where": 1}, 0, None, True, meet(), Desk(), Walk(lone(), ("u",))):
            self.raised(NoCommand, desk.execute, thing)
        self.exact(self.state(desk), self.state(self.begun()))

    def begun(self):
        desk = Desk()
        self.told(desk, (text_of(lone()), "ok"), ("go c.v", "1"))
        return desk

    def test_nothing_changes_by_what_is_no_command(self):
        desk = self.begun()
        desk.execute("back")
        kept = self.state(desk)
        for line in (text_of(meet()) + "\n", "go c.u ", "start v\n", "Back", None, ["back"]):
            self.raised(NoCommand, desk.execute, line)
            self.exact(self.state(desk), kept)
        self.told(desk, ("again", "c.v"))

    def test_asking_changes_nothing(self):
        desk = self.begun()
        desk.execute("back")
        self.exact(self.state(desk), self.state(desk))
        self.told(desk, ("again", "c.v"), ("again", "refused"))

    def test_another_game(self):
        desk = self.begun()
        self.told(desk, (text_of(flee()), "ok"), ("where", "l,l"), ("row", "l,l"), ("back", "refused"), ("again", "refused"), ("start v", "refused"),
                  ("go c.u", "refused"), ("start r,r", "ok"), (text_of(flee()), "ok"), ("where", "l,l"), ("row", "l,l"))

    def test_two_desks(self):
        one, other = self.begun(), Desk()
        self.told(other, ("where", "refused"), (text_of(meet()), "ok"), ("start r,r", "ok"))
        self.told(one, ("where", "v"), ("back", "c.v"))
        self.told(other, ("where", "r,r"), ("again", "refused"))

    def test_edges(self):
        still = Desk()
        self.told(still, ("chooser a l\nat l 7", "ok"), ("where", "l"), ("row", "l"), ("gains", "7"), ("better", "-"), ("best", "-"), ("rests", "l"),
                  ("kind", "steps"), ("far", "0 1"), ("go a.l", "refused"), ("start l", "ok"), ("start m", "refused"))
        draw = drawing(1913)
        for sizes in ((3, 3, 3, 3), (4, 4, 4)):
            game = any_game(draw, sizes, GREAT // 10)
            desk = Desk()
            self.told(desk, (text_of(game), "ok"), ("where", show_standing(game.standings()[0])))
            self.assertEqual(read_game(text_of(game) + "\n"), game)
        both = side_by_side(flee(), lone())
        self.told(desk, (text_of(both), "ok"), ("kind", "none"), ("rests", "-"), ("far", "1 1"))


if __name__ == "__main__":
    unittest.main()
