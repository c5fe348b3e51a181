"""The whole: points [1], [2], [3] over all modules, and the names and arguments of the interface."""

import importlib
import inspect
import itertools
import unittest
from fractions import Fraction

from prunepath.corners import corners
from prunepath.costs import cost_at, costed, ends, forks
from prunepath.curves import curve, least_at
from prunepath.grow import grow
from prunepath.ladders import ladder
from prunepath.links import inside, link
from prunepath.paths import for_price, path
from prunepath.prunings import cheapest, cost, how_many, lies_in, total
from prunepath.tables import Table
from prunepath.trials import answer, chosen, trial
from samples import (
    COLUMNS, MEASURES, all_prunings, as_ratio, fraction, large_trees, prices_around, small_trees, some_group,
    total_by_hand,
)

FUNCTIONS = {
    "ratios": (
        "ratio(top, bottom)", "plus(one, other)", "minus(one, other)", "times(one, other)", "over(one, other)",
        "amid(one, other)", "under(one, other)",
    ),
    "tables": ("is_word(text)",),
    "groups": ("counts(group)", "commonest(counted)", "misses(counted)", "mess(counted, measure)"),
    "questions": ("says(question, values)", "parted(question, group)", "questions(columns, group)"),
    "bests": ("drop(question, group, measure)", "best(columns, group, measure, least=1)"),
    "grow": ("grow(columns, group, measure='shares', deepest=20, least=1)",),
    "costs": ("costed(node, measure)", "forks(tree)", "ends(tree)", "cost_at(tree, place)"),
    "prunings": (
        "is_pruning(tree, places)", "lies_in(one, other)", "cost(tree, places)", "total(tree, places, price)",
        "cheapest(tree, price)", "how_many(tree)",
    ),
    "links": ("inside(tree, places)", "link(tree, places, fork)", "cut(places, places_of_forks)"),
    "paths": ("path(tree)", "for_price(steps, price)"),
    "curves": ("curve(tree)", "least_at(told, price)"),
    "ladders": ("ladder(tree)",),
    "corners": ("corners(points)",),
    "trials": ("answer(node, places, values)", "trial(node, measure, group)", "chosen(tried)"),
    "texts": (
        "show_ratio(one)", "show_place(place)", "show_tree(node, columns)", "read_whole(text)", "read_ratio(text)",
    ),
}
CLASSES = {
    "tables": {"Table(columns)": ("columns(self)", "put(self, values, answer)", "rows(self)")},
    "nodes": {
        "Node(counted)": (),
        "Leaf(counted)": ("leaves(self)", "deep(self)", "place_of(self, values)", "at(self, place)", "places(self)"),
        "Fork(counted, question, yes, no)": (
            "leaves(self)", "deep(self)", "place_of(self, values)", "at(self, place)", "places(self)",
        ),
    },
    "clerk": {"Clerk()": ("say(self, row)",)},
}


def as_written(name, thing):
    return name + str(inspect.signature(thing))


class Interface(unittest.TestCase):
    def test_functions(self):
        for name, wanted in FUNCTIONS.items():
            module = importlib.import_module("prunepath." + name)
            for want in wanted:
                function = want.split("(")[0]
                self.assertEqual(as_written(function, getattr(module, function)), want)
                self.assertEqual(getattr(module, function).__module__, "prunepath." + name)

    def test_classes(self):
        for name, wanted in CLASSES.items():
            module = importlib.import_module("prunepath." + name)
            for want, methods in wanted.items():
                kind = getattr(module, want.split("(")[0])
                self.assertEqual(as_written(want.split("(")[0], kind), want)
                for method in methods:
                    self.assertEqual(as_written(method.split("(")[0], getattr(kind, method.split("(")[0])), method)

    def test_the_module_and_the_function_of_one_name(self):
        # prunepath.grow and its kin stay modules: the package itself binds no name.
        for name in ("grow", "corners", "questions"):
            module = importlib.import_module("prunepath." + name)
            self.assertTrue(inspect.ismodule(getattr(importlib.import_module("prunepath"), name)))
            self.assertTrue(callable(getattr(module, name)))


class Promise(unittest.TestCase):
    def check(self, tree, known):
        steps = path(tree)
        told = curve(tree)
        rungs = ladder(tree)
        turns = [(price, len(places)) for price, places in steps]
        self.assertEqual([(price, leaves) for price, own, leaves in told], turns)
        self.assertEqual(corners([(leaves, own) for leaves, own, places in rungs]), turns)
        for (price, places), (same, own, leaves) in zip(steps, told):
            self.assertEqual(own, cost(tree, places))
            # The rung of as many leaves is as cheap: at its price no pruning is cheaper.
            self.assertEqual(own, rungs[leaves - 1][1])
        for one, other in zip(steps, steps[1:]):
            self.assertTrue(lies_in(other[1], one[1]))
            links = [fraction(link(tree, one[1], place)) for place in inside(tree, one[1])]
            self.assertEqual(min(links), fraction(other[0]))
        for price in prices_around(steps):
            places = for_price(steps, price)
            self.assertEqual(places, cheapest(tree, price))
            self.assertEqual(least_at(told, price), total(tree, places, price))
            for other in known:
                self.assertGreaterEqual(total_by_hand(tree, other, price), fraction(least_at(told, price)))
                if total_by_hand(tree, other, price) == fraction(least_at(told, price)):
                    self.assertTrue(lies_in(places, other))

    def test_small_trees(self):
        for tree in small_trees():
            known = all_prunings(tree)
            self.assertEqual(how_many(tree), len(known))
            self.check(tree, known)

    def test_large_trees(self):
        for tree in large_trees():
            self.check(tree, [[""], ends(tree)] + [places for leaves, own, places in ladder(tree)[::6]])

    def test_grown_trees(self):
        for seed, measure in itertools.product(range(3), MEASURES):
            tree = costed(grow(COLUMNS, some_group(seed, 60), measure), measure)
            self.check(tree, [places for leaves, own, places in ladder(tree)[::3]])
            small = costed(grow(COLUMNS, some_group(seed, 12), measure, deepest=3), measure)
            self.check(small, all_prunings(small))


class FromTableToChoice(unittest.TestCase):
    def table_of(self, group):
        table = Table(COLUMNS)
        for values, wanted in group:
            table.put(list(values), wanted)
        return table

    def test_all_along(self):
        for seed, measure in itertools.product(range(6), MEASURES):
            table = self.table_of(some_group(seed, 40))
            node = grow(table.columns(), table.rows(), measure)
            tree = costed(node, measure)
            # Grown by questions that lower the mess, each fork costs more than its two trees together.
            for place in forks(tree):
                both = fraction(cost_at(tree, place + "y")) + fraction(cost_at(tree, place + "n"))
                self.assertGreater(fraction(cost_at(tree, place)), both)
            steps = path(tree)
            self.assertEqual(steps[0][1], ends(tree))
            others = some_group(seed + 100, 30)
            tried = trial(node, measure, others)
            for (price, places), (same, leaves, misses) in zip(steps, tried):
                wrong = [values for values, wanted in others if answer(node, places, values) != wanted]
                self.assertEqual((price, len(places), len(wrong)), (same, leaves, misses))
            found = chosen(tried)
            self.assertEqual(len(for_price(steps, found[0])), found[2])
            if found[1] is not None:
                between = as_ratio((fraction(found[0]) + fraction(found[1])) / 2)
                self.assertEqual(cheapest(tree, between), for_price(steps, found[0]))
                self.assertNotEqual(cheapest(tree, found[1]), for_price(steps, found[0]))

    def test_rows_put_in_behind_growing(self):
        group = some_group(3, 30)
        table = self.table_of(group)
        rows = table.rows()
        node = grow(table.columns(), rows)
        before = path(costed(node, "shares"))
        rows.clear()
        for values, wanted in some_group(4, 20):
            table.put(list(values), wanted)
        self.assertEqual(path(costed(node, "shares")), before)
        self.assertEqual(table.rows()[:30], group)

    def test_by_hand(self):
        table = Table([("age", "number"), ("colour", "word")])
        for age, colour, wanted in (
            (7, "red", "yes"), (8, "red", "no"), (9, "blue", "no"), (12, "blue", "yes"), (12, "blue", "yes"),
            (12, "blue", "yes"), (12, "blue", "yes"),
        ):
            table.put([age, colour], wanted)
        tree = costed(grow(table.columns(), table.rows()), "shares")
        none = ("end", (0, 1))
        self.assertEqual(tree, ("fork", (20, 7), ("fork", (4, 3), none, none), none))
        self.assertEqual(path(tree), [((0, 1), ["n", "yn", "yy"]), ((4, 3), ["n", "y"]), ((32, 21), [""])])
        self.assertEqual(curve(tree), [((0, 1), (0, 1), 3), ((4, 3), (4, 3), 2), ((32, 21), (20, 7), 1)])
        self.assertEqual(fraction(least_at(curve(tree), (3, 2))), Fraction(4, 3) + 2 * Fraction(3, 2))


if __name__ == "__main__":
    unittest.main()
