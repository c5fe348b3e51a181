"""The ladder: points [2], [23] and the interface, prunepath/ladders.py."""

import itertools
import math
import unittest

from prunepath.costs import costed, ends
from prunepath.grow import grow
from prunepath.ladders import ladder
from prunepath.prunings import is_pruning
from samples import (
    COLUMNS, MEASURES, SMALL, SMALL_PRUNINGS, all_prunings, cost_by_hand, counted_up, deep_tree, end, even_tree, fork,
    fraction, large_costs, large_trees, nudged, rising_tree, small_trees, some_group, trees_and_places, with_gains,
)


def least_by_leaves(tree, lift):
    # Every pair of sizes of both trees is tried, the least kept; all costs are told as whole numbers, so much lifted.
    told = {1: tree[1][0] * (lift // tree[1][1])}
    if tree[0] == "fork":
        pairs = itertools.product(least_by_leaves(tree[2], lift).items(), least_by_leaves(tree[3], lift).items())
        for (one, first), (other, second) in pairs:
            if one + other not in told or first + second < told[one + other]:
                told[one + other] = first + second
    return told


class Ladder(unittest.TestCase):
    def check_form(self, tree, told):
        self.assertIs(type(told), list)
        self.assertEqual([step[0] for step in told], list(range(1, len(ends(tree)) + 1)))
        for leaves, own, places in told:
            self.assertIs(type(leaves), int)
            self.assertTrue(own[1] >= 1 and math.gcd(own[0], own[1]) == 1, "no ratio in lowest terms")
            self.assertIs(type(places), list)
            self.assertEqual(len(places), leaves)
            self.assertTrue(is_pruning(tree, places))
        for step in told:
            self.assertIs(type(step), tuple)

    def check(self, tree):
        told = ladder(tree)
        self.check_form(tree, told)
        lift = math.lcm(*[part[1][1] for place, part in trees_and_places(tree)])
        least = least_by_leaves(tree, lift)
        for leaves, own, places in told:
            self.assertTrue(fraction(own) == cost_by_hand(tree, places), "another cost than the pruning's")
            self.assertTrue(fraction(own) * lift == least[leaves], "not the least cost")

    def test_single_end(self):
        for cost in (-7, 0, 7, 10 ** 30):
            self.assertEqual(ladder(end(cost)), [(1, (cost, 1), [""])])
        self.assertEqual(ladder(("end", (-7, 3))), [(1, (-7, 3), [""])])

    def test_one_fork(self):
        self.assertEqual(ladder(fork(7, end(-2), end(3))), [(1, (7, 1), [""]), (2, (1, 1), ["n", "y"])])
        self.assertEqual(ladder(fork(-7, end(2), end(3))), [(1, (-7, 1), [""]), (2, (5, 1), ["n", "y"])])

    def test_small_tree(self):
        costs = [(9, 1), (6, 1), (8, 1), (3, 1)]
        self.assertEqual(ladder(SMALL), list(zip((1, 2, 3, 4), costs, SMALL_PRUNINGS)))

    def test_the_lesser_of_two(self):
        tree = fork(30, fork(5, end(1), end(2)), fork(9, end(3), end(4)))
        self.assertEqual(ladder(tree)[2], (3, (12, 1), ["nn", "ny", "y"]))
        tree = fork(30, fork(9, end(1), end(2)), fork(5, end(3), end(4)))
        self.assertEqual(ladder(tree)[2], (3, (8, 1), ["n", "yn", "yy"]))
        tree = fork(30, fork(9, end(1), fork(0, end(7), end(8))), fork(5, end(-3), end(4)))
        self.assertEqual([step[1] for step in ladder(tree)], [(30, 1), (14, 1), (6, 1), (2, 1), (17, 1)])

    def test_costs_in_lowest_terms(self):
        tree = ("fork", (5, 4), ("end", (1, 6)), ("end", (1, 3)))
        self.assertEqual(ladder(tree), [(1, (5, 4), [""]), (2, (1, 2), ["n", "y"])])
        tree = ("fork", (5, 4), ("end", (1, 6)), ("end", (-1, 6)))
        self.assertEqual(ladder(tree)[1], (2, (0, 1), ["n", "y"]))

    def test_against_all_prunings_of_small_trees(self):
        for tree in small_trees():
            known = all_prunings(tree)
            told = ladder(tree)
            self.check_form(tree, told)
            for leaves, own, places in told:
                costs = {tuple(one): cost_by_hand(tree, one) for one in known if len(one) == leaves}
                self.assertEqual(fraction(own), min(costs.values()))
                self.assertEqual(costs[tuple(places)], fraction(own))

    def test_large_trees(self):
        for tree in large_trees():
            self.check(tree)
            self.assertEqual(len(ladder(tree)), 61)

    def test_chain_twenty_deep(self):
        costs = counted_up()
        tree = ("end", next(costs))
        for step in range(20):
            tree = ("fork", next(costs), ("end", next(costs)), tree)
        self.check(tree)
        self.check(with_gains(tree, itertools.count(3)))

    def test_grown_trees(self):
        for seed, measure in itertools.product(range(3), MEASURES):
            self.check(costed(grow(COLUMNS, some_group(seed, 60), measure), measure))

    def test_costs_of_thirty_figures(self):
        costs = large_costs(30)
        for tree in (even_tree(60, iter(costs)), deep_tree(iter(costs)), deep_tree(reversed(costs), "n")):
            self.check(tree)

    def test_costs_of_three_thousand_figures(self):
        tree = nudged(rising_tree(even_tree(60, counted_up())), 2990, itertools.count(3, 2))
        told = ladder(tree)
        self.assertEqual([step[0] for step in told], list(range(1, 62)))
        for step, near in zip(told, ladder(rising_tree(even_tree(60, counted_up())))):
            self.assertTrue(is_pruning(tree, step[2]))
            # The costs are raised by next to nothing, and so is each least cost: it comes to less than one more.
            top = step[1][0] * near[1][1] - near[1][0] * step[1][1]
            self.assertTrue(0 < top < step[1][1] * near[1][1])
        for leaves, own, places in told[::25]:
            self.assertTrue(fraction(own) == cost_by_hand(tree, places), "another cost than the pruning's")
            self.assertTrue(math.gcd(own[0], own[1]) == 1, "not in lowest terms")

    def test_what_is_told_is_the_askers_own(self):
        for tree in (end(7), SMALL, fork(30, fork(5, end(1), end(2)), fork(9, end(3), end(4)))):
            want = [(leaves, own, list(places)) for leaves, own, places in ladder(tree)]
            told = ladder(tree)
            told[0][2].append("spoiled")
            told[0][2][0] = "spoiled"
            self.assertEqual(told[1:], want[1:])
            for step in told:
                step[2].clear()
            told.clear()
            self.assertEqual(ladder(tree), want)


if __name__ == "__main__":
    unittest.main()
