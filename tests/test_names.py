"""Point 12: names exchanged one to one such that their order stays exchange the results likewise."""

import unittest

from heightgames import (
    betterings, climbs, ends, facts, far, fillings, firsts, heights, joined, notation, parts, readers, rounds, rows, signs, squares, teams,
    tolls, weights, worth,
)
from heightgames.back import Seen
from heightgames.desk import Desk, Walk
from heightgames.games import Game
from heightgames.roads import Roads
from heightgames.ties import Ties
from tests.samples import (
    CHOOSERS, SOME_SIZES, WAYS, Checks, any_game, bent_game, climbing_game, drawing, rings, side_by_side, signed_game,
    steep_game, tied_game, weighted_game,
)
from tests.test_roads import NAMES, any_costs, any_uses
from tests.test_ties import any_tables

NEW_NAMES = {old: new for old, new in zip(CHOOSERS, ("m", "mm", "n", "zzzzzzzz"))}
NEW_NAMES.update({old: new for old, new in zip(NAMES, "abcdefg")})
for ways_of_one in WAYS:
    # The ways of all choosers get the same names.
    NEW_NAMES.update(zip(ways_of_one, ("b", "ba", "bz", "c")))


def renamed(thing):
    """What a value is with other names."""
    if isinstance(thing, str):
        return NEW_NAMES[thing]
    if isinstance(thing, dict):
        return {renamed(key): renamed(worth) for key, worth in thing.items()}
    if isinstance(thing, (list, tuple)):
        return type(thing)(renamed(item) for item in thing)
    return thing


def told(game):
    return (game.shape(), {standing: game.gains(standing) for standing in game})


class Names(Checks):
    def test_games_and_what_is_asked_of_them(self):
        draw = drawing(71)
        for sizes in SOME_SIZES:
            for make in (steep_game, bent_game, any_game):
                game = make(draw, sizes)
                other = Game(*renamed(told(game)))
                for call in (Game.choosers, Game.shape, Game.standings, list, rows.lines, squares.squares, squares.bad_square,
                             squares.bad_pairs, heights.height, heights.split):
                    self.exact(call(other), renamed(call(game)))
                for standing in game:
                    self.exact(other.changes(renamed(standing)), renamed(game.changes(standing)))
                for line in rows.lines(game):
                    self.exact(rows.along(other, renamed(line)), renamed(rows.along(game, line)))
                for square in squares.squares(game)[:20]:
                    for call in (squares.ring_of, squares.sums):
                        self.exact(call(other, renamed(square)), renamed(call(game, square)))
                if heights.height(game) is not None:
                    self.exact(heights.tops(other), renamed(heights.tops(game)))
                chooser = draw.choice(game.choosers())
                ways = {chooser: game.ways(chooser)[:2]}
                self.exact(told(other.kept(renamed(ways))), renamed(told(game.kept(ways))))
                line = draw.choice(rows.lines(game))
                self.exact(told(other.with_extra(*renamed(line), 3)), renamed(told(game.with_extra(*line, 3))))
                for ring in rings(draw, game):
                    for call in (rows.led, rows.walked, rows.row_sum, rows.is_ring, fillings.account):
                        self.exact(call(other, renamed(ring)), renamed(call(game, ring)))
                    self.assertIs(fillings.is_filling(other, renamed(ring), renamed(fillings.filled(game, ring))), True)

    def test_heights_of_all_kinds(self):
        draw = drawing(74)
        made = [make(draw, sizes) for sizes in SOME_SIZES[::2] for make in (weighted_game, signed_game, climbing_game, any_game)]
        for game in made + [side_by_side(weighted_game(draw, (2, 2)), weighted_game(draw, (2, 3)))]:
            other = Game(*renamed(told(game)))
            for call in (weights.links, weights.groups, weights.weights, weights.weighted_height, signs.levels, signs.sign_height,
                         betterings.rests, climbs.climb, climbs.lost, climbs.lengths):
                self.exact(call(other), renamed(call(game)))
            for call in (weights.against_weights, signs.weak_ring, betterings.bettering_ring):
                self.assertIs(call(other) is None, call(game) is None)
            for standing in game.standings()[::7]:
                for call in (betterings.betterings, climbs.reached, climbs.ends):
                    for best in (True, False):
                        self.exact(call(other, renamed(standing), best=best), renamed(call(game, standing, best=best)))

    def test_rounds_and_far(self):
        draw = drawing(75)
        for sizes in SOME_SIZES[:-1]:
            for game in (any_game(draw, sizes), climbing_game(draw, sizes)):
                other = Game(*renamed(told(game)))
                order = draw.sample(game.choosers(), len(sizes))
                self.exact(rounds.resting_order(other), renamed(rounds.resting_order(game)))
                self.exact(rounds.turning(other, renamed(order)), renamed(rounds.turning(game, order)))
                for standing in game.standings()[::7]:
                    self.exact(rounds.round_from(other, renamed(standing), renamed(order)),
                               renamed(rounds.round_from(game, standing, order)))
                    word, places = rounds.rounds(game, standing, order)
                    self.exact(rounds.rounds(other, renamed(standing), renamed(order)), (word, renamed(places)))
                self.exact(far.far(other), far.far(game))
                self.exact(far.calm(other), far.calm(game))
                for number in (0, 3, far.calm(game)):
                    self.exact(far.over_ranks(other, number), renamed(far.over_ranks(game, number)))

    def test_facts(self):
        draw = drawing(76)
        for sizes in SOME_SIZES:
            for share in (3, 9, 10):
                lines = rows.lines(any_game(draw, sizes))
                game = climbing_game(draw, sizes)
                chosen = draw.sample(lines, len(lines) * share // 10)
                some = facts.facts_of(game, chosen)
                other = facts.facts_of(Game(*renamed(told(game))), renamed(chosen))
                for call in (facts.Facts.told, facts.Facts.untold, facts.Facts.shape, facts.sure_rests, facts.possible_rests,
                             ends.sure_climb):
                    self.exact(call(other), renamed(call(some)))
                self.exact(ends.fate(other), ends.fate(some))
                if len(game) <= 27:
                    self.exact(ends.settling(other), renamed(ends.settling(some)))
                standing = draw.choice(game.standings())
                for change in game.changes(standing):
                    for call in (facts.is_sure, facts.is_possible):
                        self.assertIs(call(other, renamed(standing), renamed(change)), call(some, standing, change))

    def test_tolls_and_worth(self):
        draw = drawing(77)
        for sizes in SOME_SIZES:
            for game in (any_game(draw, sizes), climbing_game(draw, sizes)):
                other = Game(*renamed(told(game)))
                standing = draw.choice(game.standings())
                for call in (tolls.rest_tolls, tolls.promises):
                    self.exact(call(other, renamed(standing)), renamed(call(game, standing)))
                self.exact(tolls.paid(other, renamed(standing)), tolls.paid(game, standing))
                due = tolls.rest_tolls(game, standing)
                self.exact(told(tolls.tolled(other, renamed(due))), renamed(told(tolls.tolled(game, due))))
                self.exact(told(tolls.promised(other, renamed(standing))), renamed(told(tolls.promised(game, standing))))
                for call in (worth.best_sum, worth.rest_sums):
                    self.exact(call(other), renamed(call(game)))
                if max(sizes) <= 2 and len(game) <= 8:
                    found = [sum(sum(part.values()) for part in tolls.lone_tolls(*given).values())
                             for given in ((game, standing), (other, renamed(standing)))]
                    self.exact(found[0], found[1])

    def test_parts_firsts_and_teams(self):
        draw = drawing(78)
        for sizes in SOME_SIZES:
            for game in (any_game(draw, sizes, 3), climbing_game(draw, sizes), tied_game(draw, sizes, 9, 2)):
                other = Game(*renamed(told(game)))
                for call in (parts.hangs, parts.lots, parts.worse, teams.strong_rests, teams.team_ranks):
                    self.exact(call(other), renamed(call(game)))
                self.exact(told(parts.struck(other)[0]), renamed(told(parts.struck(game)[0])))
                self.truth(parts.is_struck(other, renamed(parts.struck(game)[1])), True)
                ways = dict(zip(game.choosers()[1:], game.standings()[-1][1:]))
                self.exact(told(parts.fixed(other, renamed(ways))), renamed(told(parts.fixed(game, ways))))
                for wished in (betterings.rests(game), betterings.rests(game)[:1]):
                    found = firsts.firsts(game, wished)
                    self.exact(firsts.firsts(other, renamed(wished)), renamed(found))
                    for first in ({}, dict(found or ())):
                        self.exact(firsts.lead_ranks(other, renamed(first), renamed(wished)), renamed(firsts.lead_ranks(game, first, wished)))
                        away = firsts.stray(game, first, wished)
                        self.assertIs(firsts.stray(other, renamed(first), renamed(wished)) is None, away is None)
                        self.truth(firsts.is_stray(other, renamed(first), renamed(wished), renamed(away)), away is not None)
                standing = draw.choice(game.standings())
                self.exact(teams.team_betterings(other, renamed(standing)), renamed(teams.team_betterings(game, standing)))
                ring = teams.team_ring(game)
                self.truth(teams.is_team_ring(other, renamed(ring)), ring is not None)

    def test_joined(self):
        draw = drawing(79)
        one, other = any_game(draw, (2, 3)), any_game(draw, (3, 2))
        other = Game({"cid": other.ways("ann"), "dora": other.ways("bob")}, {place: other.gains(place) for place in other})
        both = joined.beside(one, other)
        new_one, new_other = Game(*renamed(told(one))), Game(*renamed(told(other)))
        self.exact(told(joined.beside(new_one, new_other)), renamed(told(both)))
        for standing in both:
            self.exact(joined.sides(new_one, new_other, renamed(standing)), renamed(joined.sides(one, other, standing)))

    def test_what_was_seen(self):
        draw = drawing(80)
        for sizes in SOME_SIZES[1:]:
            game = any_game(draw, sizes)
            seen, other = Seen(game.shape()), Seen(renamed(game.shape()))
            for _ in range(9):
                standing = draw.choice(game.standings())
                if game.changes(standing) and draw.randrange(4):
                    change = draw.choice(game.changes(standing))
                    seen.saw(standing, change)
                    other.saw(renamed(standing), renamed(change))
                else:
                    seen.rested(standing)
                    other.rested(renamed(standing))
                self.exact([item[1:] for item in other], [renamed(item[1:]) for item in seen])
                self.exact(other.height(), renamed(seen.height()))
                against = [] if seen.against() is None else seen.against()
                words = [(renamed(item[0]), renamed(item[1]), item[2]) for item in against]
                self.truth(other.is_against(words), against != [])

    def test_texts_and_desks(self):
        draw = drawing(81)
        for sizes in SOME_SIZES:
            game = any_game(draw, sizes)
            other = Game(*renamed(told(game)))
            self.assertEqual(readers.read_game(notation.show_game(other)), other)
            walk, other_walk = Walk(game, game.standings()[-1]), Walk(other, other.standings()[-1])
            one, two = Desk(), Desk()
            one.execute(notation.show_game(game)[:-1])
            two.execute(notation.show_game(other)[:-1])
            for _ in range(6):
                choice = game.changes(walk.here)
                if choice:
                    change = draw.choice(choice)
                    self.exact(other_walk.go(renamed(change)), walk.go(change))
                self.exact((other_walk.here, other_walk.row(), other_walk.gained()), renamed((walk.here, walk.row(), walk.gained())))
                for line in ("gains", "kind", "far"):
                    self.exact(two.execute(line), one.execute(line))
                standing = draw.choice(game.standings())
                for desk, place in ((one, standing), (two, renamed(standing))):
                    self.exact(desk.execute("start " + notation.show_standing(place)), "ok")
                for line, read in (("where", readers.read_standing), ("row", readers.read_row)):
                    self.exact(read(two.execute(line)), renamed(read(one.execute(line))))
                for line in ("better", "best"):
                    found = [[] if desk.execute(line) == "-" else desk.execute(line).split(" ") for desk in (one, two)]
                    self.exact([readers.read_change(word) for word in found[1]], [renamed(readers.read_change(word)) for word in found[0]])

    def test_roads(self):
        draw = drawing(72)
        for sizes in SOME_SIZES:
            uses, costs = any_uses(draw, sizes), any_costs(draw, len(sizes))
            roads, other = Roads(uses, costs), Roads(renamed(uses), renamed(costs))
            self.exact(told(other.game()), renamed(told(roads.game())))
            self.exact(other.height(), renamed(roads.height()))
            self.exact(other.roads(), renamed(roads.roads()))
            self.assertIs(other.is_linear(), roads.is_linear())
            for standing in roads.game():
                self.exact(other.loads(renamed(standing)), renamed(roads.loads(standing)))
                self.exact(other.cost(renamed(standing)), roads.cost(standing))
            for chooser in uses:
                for way in uses[chooser]:
                    self.exact(other.used(renamed(chooser), renamed(way)), renamed(roads.used(chooser, way)))

    def test_ties(self):
        draw = drawing(73)
        for sizes in SOME_SIZES:
            shape, tables = any_game(draw, sizes).shape(), any_tables(draw, sizes, 4)
            ties, other = Ties(shape, tables), Ties(renamed(shape), renamed(tables))
            self.exact(told(other.game()), renamed(told(ties.game())))
            self.exact(other.pairs(), renamed(ties.pairs()))
            self.exact(other.bad_ties(), renamed(ties.bad_ties()))
            for pair in tables:
                self.exact(other.table(renamed(pair)), renamed(ties.table(pair)))
            for chooser in shape:
                self.exact(other.neighbours(renamed(chooser)), renamed(ties.neighbours(chooser)))


if __name__ == "__main__":
    unittest.main()
