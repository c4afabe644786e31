"""The section "The interface": what must exist under which name, with which arguments, and where."""

import importlib
import inspect
import unittest

from heightgames import desk

INTERFACE = {
    "kinds": ["is_integer(thing)", "is_name(thing)", "is_shape(thing)", "is_change(thing)", "is_row(thing)"],
    "rows": ["led(game, row)", "walked(game, row)", "row_sum(game, row)", "is_ring(game, thing)", "lines(game)",
             "line_of(game, standing, chooser)", "along(game, line)"],
    "squares": ["squares(game)", "bad_pairs(game)", "is_square(game, thing)", "ring_of(game, square)",
                "sums(game, square)", "bad_square(game)"],
    "fillings": ["account(game, row)", "filled(game, ring)", "is_filling(game, ring, thing)"],
    "heights": ["height(game)", "is_height(game, thing)", "split(game)", "tops(game)", "nearer(game, standing, other)"],
    "told": ["as_roads(game)", "as_ties(game)"],
    "weights": ["links(game)", "groups(game)", "weights(game)", "weighted_height(game)", "is_weighted(game, numbers, thing)",
                "against_weights(game)", "is_against_weights(game, thing)"],
    "signs": ["levels(game)", "sign_height(game)", "is_sign_height(game, thing)", "weak_ring(game)", "is_weak_ring(game, thing)"],
    "betterings": ["betterings(game, standing, *, best=False)", "is_rest(game, standing)", "rests(game)",
                   "bettering_ring(game, *, best=False)", "is_bettering_ring(game, thing, *, best=False)"],
    "climbs": ["climb(game, *, best=False)", "is_climb(game, thing, *, best=False)", "reached(game, standing, *, best=False)",
               "ends(game, standing, *, best=False)", "longest(game, standing, *, best=False)", "lost(game, *, best=False)",
               "lengths(game, *, best=False)"],
    "rounds": ["round_from(game, standing, order)", "rounds(game, standing, order)", "resting_order(game)", "turning(game, order)"],
    "facts": ["facts_of(game, lines)", "is_sure(facts, standing, change)", "is_possible(facts, standing, change)",
              "sure_rests(facts)", "possible_rests(facts)"],
    "ends": ["fate(facts)", "sure_climb(facts)", "is_sure_climb(facts, thing)", "possible_ring(facts)", "ending_game(facts)",
             "settling(facts)"],
    "far": ["far(game)", "far_ring(game)", "calm_ring(game)", "near_height(game)", "calm(game)", "over_ranks(game, number)",
            "is_far(game, amount, thing)", "is_near(game, amount, thing)"],
    "tolls": ["tolled(game, tolls)", "rest_tolls(game, standing)", "lone_tolls(game, standing)", "promises(game, standing)",
              "promised(game, standing)", "paid(game, standing)"],
    "worth": ["best_sum(game)", "rest_sums(game)", "dearness(roads)"],
    "parts": ["hangs(game)", "lots(game)", "worse(game)", "fixed(game, ways)", "struck(game)", "is_struck(game, thing)"],
    "joined": ["beside(game, other)", "sides(game, other, standing)"],
    "firsts": ["leads(game, first, wished)", "is_lead(game, first, wished, thing)", "is_stray(game, first, wished, thing)",
               "lead_ranks(game, first, wished)", "stray(game, first, wished)", "firsts(game, wished)"],
    "teams": ["team_betterings(game, standing)", "strong_rests(game)", "team_ranks(game)", "team_ring(game)",
              "is_team_height(game, thing)", "is_team_ring(game, thing)"],
    "notation": ["show_standing(standing)", "show_change(change)", "show_row(row)", "show_game(game)"],
    "readers": ["read_standing(text)", "read_change(text)", "read_row(text)", "read_game(text)"],
}
# By the names of classes: their modules and methods.
CLASSES = {
    "Game": ("games", ["__init__(self, ways, gains)", "__eq__(self, other)", "__len__(self)", "__contains__(self, x)",
                       "__iter__(self)", "choosers(self)", "standings(self)", "ways(self, chooser)", "shape(self)",
                       "gain(self, chooser, standing)", "gains(self, standing)", "changes(self, standing)",
                       "goal(self, standing, change)", "own(self, standing, change)",
                       "with_gains(self, standing, gains)", "plus(self, other)", "times(self, number)",
                       "with_extra(self, chooser, others, number)", "kept(self, ways)"]),
    "Roads": ("roads", ["__init__(self, uses, costs)", "__eq__(self, other)", "roads(self)", "used(self, chooser, way)",
                        "costs(self, road)", "loads(self, standing)", "cost(self, standing)", "game(self)",
                        "height(self)", "is_linear(self)", "with_costs(self, road, costs)"]),
    "Ties": ("ties", ["__init__(self, ways, tables)", "__eq__(self, other)", "pairs(self)", "bad_ties(self)",
                      "table(self, pair)", "tie_game(self, pair)", "game(self)", "neighbours(self, chooser)"]),
    "Facts": ("facts", ["__init__(self, ways)", "__eq__(self, other)", "tell(self, line, order)", "forget(self, line)",
                        "shape(self)", "told(self)", "untold(self)", "fits(self, game)", "copied(self)"]),
    "Seen": ("back", ["__init__(self, ways)", "__len__(self)", "__iter__(self)", "saw(self, standing, change)",
                      "rested(self, standing)", "undo(self)", "height(self)", "game(self)", "against(self)", "fits(self, thing)",
                      "is_against(self, thing)"]),
    "Walk": ("desk", ["__init__(self, game, standing)", "go(self, change)", "back(self)", "again(self)", "row(self)",
                      "gained(self)"]),
    "Desk": ("desk", ["__init__(self)", "execute(self, line)"]),
}


class Interface(unittest.TestCase):
    def check(self, holder, told, module):
        name = told.partition("(")[0]
        found = holder[name]
        self.assertTrue(inspect.isfunction(found))
        self.assertEqual(found.__module__, module)
        self.assertEqual(name + str(inspect.signature(found)), told)

    def test_functions(self):
        for name, functions in INTERFACE.items():
            module = importlib.import_module("heightgames." + name)
            for told in functions:
                self.check(vars(module), told, module.__name__)

    def test_classes(self):
        for kind, (name, methods) in CLASSES.items():
            module = importlib.import_module("heightgames." + name)
            found = vars(module)[kind]
            self.assertEqual(found.__module__, module.__name__)
            for told in methods:
                self.check(vars(found), told, module.__name__)

    def test_here(self):
        found = vars(desk.Walk)["here"]
        self.assertIsInstance(found, property)
        self.assertEqual(found.fget.__module__, "heightgames.desk")


if __name__ == "__main__":
    unittest.main()
