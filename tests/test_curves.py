"""The curve: points [2], [22] and the interface, prunepath/curves.py."""

import itertools
import math
import unittest
from fractions import Fraction

from prunepath.costs import costed
from prunepath.curves import curve, least_at
from prunepath.errors import NoPrice
from prunepath.grow import grow
from prunepath.paths import path
from samples import (
    BELOW, COLUMNS, MEASURES, PRICES, SMALL, all_prunings, as_ratio, cost_by_hand, counted_up, deep_tree, end,
    even_tree, fork, fraction, large_costs, large_trees, least_by_hand, nudged, path_by_hand, prices_around,
    rising_tree, small_trees, some_group, total_by_hand,
)

SMALL_CURVE = [((0, 1), (3, 1), 4), ((3, 2), (6, 1), 2), ((3, 1), (9, 1), 1)]


def grown_trees():
    told = []
    for seed, measure in itertools.product(range(3), MEASURES):
        told.append(costed(grow(COLUMNS, some_group(seed, 60), measure), measure))
    return told


class Curve(unittest.TestCase):
    def check_form(self, told):
        self.assertIs(type(told), list)
        self.assertEqual(told[0][0], (0, 1))
        self.assertEqual(told[-1][2], 1)
        for step in told:
            self.assertIs(type(step), tuple)
            self.assertEqual(len(step), 3)
            self.assertIs(type(step[2]), int)
            for one in step[:2]:
                self.assertTrue(one[1] >= 1 and math.gcd(one[0], one[1]) == 1, "no ratio in lowest terms")
        for one, other in zip(told, told[1:]):
            self.assertTrue(fraction(one[0]) < fraction(other[0]), "prices that don't rise")
            self.assertGreater(one[2], other[2])

    def check(self, tree):
        told = curve(tree)
        self.check_form(told)
        wanted = [(price, as_ratio(cost_by_hand(tree, places)), len(places)) for price, places in path_by_hand(tree)]
        self.assertEqual(told, wanted)
        return told

    def test_single_end(self):
        for cost in (-7, 0, 7, 10 ** 30):
            self.assertEqual(curve(end(cost)), [((0, 1), (cost, 1), 1)])
        self.assertEqual(curve(("end", (-7, 3))), [((0, 1), (-7, 3), 1)])

    def test_small_tree(self):
        self.assertEqual(curve(SMALL), SMALL_CURVE)

    def test_one_fork(self):
        self.assertEqual(curve(fork(10, end(4), end(3))), [((0, 1), (7, 1), 2), ((3, 1), (10, 1), 1)])
        self.assertEqual(curve(fork(-1, end(-4), end(2))), [((0, 1), (-2, 1), 2), ((1, 1), (-1, 1), 1)])
        self.assertEqual(curve(fork(7, end(4), end(3))), [((0, 1), (7, 1), 1)])
        self.assertEqual(curve(fork(-9, end(4), end(3))), [((0, 1), (-9, 1), 1)])

    def test_costs_in_lowest_terms(self):
        tree = ("fork", (5, 4), ("end", (1, 6)), ("end", (1, 3)))
        self.assertEqual(curve(tree), [((0, 1), (1, 2), 2), ((3, 4), (5, 4), 1)])

    def test_many_trees(self):
        for tree in small_trees() + large_trees() + grown_trees():
            self.check(tree)

    def test_sixty_steps(self):
        for base in (even_tree(60, counted_up()), deep_tree(counted_up()), deep_tree(counted_up(), "n")):
            self.assertEqual(len(self.check(rising_tree(base))), 61)

    def test_costs_of_thirty_figures(self):
        costs = large_costs(30)
        for tree in (even_tree(60, iter(costs)), deep_tree(iter(costs))):
            self.check(tree)

    def test_sixty_steps_with_costs_of_three_thousand_figures(self):
        tree = nudged(rising_tree(even_tree(60, counted_up())), 2990, itertools.count(3, 2))
        told = curve(tree)
        self.assertEqual(len(told), 61)
        for price, own, leaves in told[10::25]:
            found = least_by_hand(tree, price)
            self.assertTrue(fraction(own) == cost_by_hand(tree, found[2]), "another cost")
            self.assertEqual(leaves, found[1])

    def test_has_the_prices_of_the_path(self):
        for tree in small_trees() + large_trees():
            told = curve(tree)
            steps = path(tree)
            self.assertEqual([step[0] for step in told], [step[0] for step in steps])
            self.assertEqual([step[2] for step in told], [len(step[1]) for step in steps])

    def test_list_told_is_the_askers_own(self):
        for tree, want in ((end(7), [((0, 1), (7, 1), 1)]), (SMALL, SMALL_CURVE)):
            told = curve(tree)
            told[0] = "spoiled"
            told.append("spoiled")
            self.assertEqual(curve(tree), want)


class LeastAt(unittest.TestCase):
    def test_single_end(self):
        self.assertEqual(least_at(curve(end(7)), (0, 1)), (7, 1))
        self.assertEqual(least_at(curve(end(7)), (1, 3)), (22, 3))
        self.assertEqual(least_at(curve(end(-7)), (7, 1)), (0, 1))
        self.assertEqual(least_at(curve(end(7)), (10 ** 30, 1)), (10 ** 30 + 7, 1))

    def test_small_tree(self):
        wanted = (
            ((0, 1), (3, 1)), ((1, 2), (5, 1)), ((1, 1), (7, 1)), ((3, 2), (9, 1)), ((2, 1), (10, 1)),
            ((3, 1), (12, 1)), ((7, 2), (25, 2)), ((10, 1), (19, 1)), ((1, 4), (4, 1)), ((1, 3), (13, 3)),
        )
        for price, want in wanted:
            self.assertEqual(least_at(SMALL_CURVE, price), want)

    def test_against_all_prunings_of_small_trees(self):
        for tree in small_trees():
            known = all_prunings(tree)
            told = curve(tree)
            for price in prices_around(told) + PRICES:
                least = min(total_by_hand(tree, places, price) for places in known)
                self.assertEqual(least_at(told, price), as_ratio(least))

    def test_large_trees(self):
        for tree in large_trees() + grown_trees()[:2]:
            told = curve(tree)
            for price in prices_around(told) + PRICES:
                self.assertEqual(least_at(told, price), as_ratio(least_by_hand(tree, price)[0]))

    def test_a_fork_from_both_its_trees(self):
        for tree in small_trees() + large_trees():
            if tree[0] == "fork":
                told = curve(tree)
                yes = curve(tree[2])
                no = curve(tree[3])
                for price in prices_around(told) + prices_around(yes) + prices_around(no):
                    both = fraction(least_at(yes, price)) + fraction(least_at(no, price))
                    own = fraction(tree[1]) + fraction(price)
                    self.assertEqual(fraction(least_at(told, price)), min(own, both))

    def test_price_of_three_thousand_figures(self):
        large = 10 ** 2999
        self.assertTrue(least_at(SMALL_CURVE, (large, 1)) == (large + 9, 1))
        self.assertTrue(least_at(SMALL_CURVE, (1, large)) == as_ratio(3 + 4 * Fraction(1, large)))

    def test_price_below_nought(self):
        for price in BELOW:
            for tree in (end(7), SMALL):
                told = curve(tree)
                with self.assertRaises(NoPrice) as caught:
                    least_at(told, price)
                self.assertTrue(caught.exception.price == price)
                self.assertEqual(told, curve(tree))

    def test_what_is_handed_in_stays(self):
        told = list(SMALL_CURVE)
        for price in PRICES:
            least_at(told, price)
        self.assertEqual(told, SMALL_CURVE)


if __name__ == "__main__":
    unittest.main()
