"""The path and the pruning for a price: points [2], [3], [18], [20], [21] and the interface, prunepath/paths.py."""

import itertools
import math
import unittest
from fractions import Fraction

from prunepath.costs import costed, ends
from prunepath.errors import NoPrice
from prunepath.grow import grow
from prunepath.links import cut, inside, link
from prunepath.paths import for_price, path
from prunepath.prunings import cheapest, is_pruning, lies_in
from samples import (
    BELOW, COLUMNS, MEASURES, PRICES, SMALL, all_prunings, as_ratio, counted_up, deep_tree, end, even_tree, figures,
    fork, fraction, large_costs, large_trees, least_by_hand, nudged, path_by_hand, prices_around, rising_tree,
    small_trees, some_group, total_by_hand, with_gains,
)

SMALL_PATH = [((0, 1), ["nn", "nyn", "nyy", "y"]), ((3, 2), ["n", "y"]), ((3, 1), [""])]


def chain(costs, sign="y"):
    tree = ("end", next(costs))
    for step in range(20):
        own = next(costs)
        side = ("end", next(costs))
        tree = ("fork", own, tree, side) if sign == "y" else ("fork", own, side, tree)
    return tree


def chains():
    return [chain(counted_up(), sign) for sign in "yn"]


def like_links():
    # The same gain at every fork: all links are alike, beside and beneath one another.
    bases = [even_tree(7, counted_up()), even_tree(60, counted_up()), deep_tree(counted_up())] + chains()
    return [with_gains(base, itertools.repeat(gain)) for base in bases for gain in (Fraction(7, 3), Fraction(1))]


def grown_trees():
    told = []
    for seed, measure in itertools.product(range(4), MEASURES):
        told.append(costed(grow(COLUMNS, some_group(seed, 60), measure), measure))
    return told


class Path(unittest.TestCase):
    def check_form(self, tree, steps):
        self.assertIs(type(steps), list)
        self.assertEqual(steps[0][0], (0, 1))
        self.assertEqual(steps[-1][1], [""])
        for step in steps:
            self.assertIs(type(step), tuple)
            self.assertEqual(len(step), 2)
            self.assertTrue(step[0][1] >= 1 and math.gcd(step[0][0], step[0][1]) == 1, "no ratio in lowest terms")
            self.assertTrue(is_pruning(tree, step[1]))
        for one, other in zip(steps, steps[1:]):
            self.assertTrue(fraction(one[0]) < fraction(other[0]), "prices that don't rise")
            self.assertTrue(lies_in(other[1], one[1]))
            self.assertLess(len(other[1]), len(one[1]))

    def check_links(self, tree, steps):
        # Each step by the words of [20], from the step ahead.
        self.assertEqual(steps[0][1], cheapest(tree, (0, 1)))
        for one, other in zip(steps, steps[1:]):
            links = {place: link(tree, one[1], place) for place in inside(tree, one[1])}
            least = min(links.values(), key=fraction)
            self.assertTrue(other[0] == least, "another price")
            self.assertEqual(other[1], cut(one[1], [place for place in links if links[place] == least]))

    def check(self, tree):
        steps = path(tree)
        self.check_form(tree, steps)
        self.check_links(tree, steps)
        self.assertEqual(steps, path_by_hand(tree))
        return steps

    def test_single_end(self):
        for cost in (-7, 0, 7, 10 ** 30):
            self.assertEqual(path(end(cost)), [((0, 1), [""])])

    def test_small_tree(self):
        self.assertEqual(path(SMALL), SMALL_PATH)

    def test_one_fork(self):
        both = ["n", "y"]
        self.assertEqual(path(fork(10, end(4), end(3))), [((0, 1), both), ((3, 1), [""])])
        self.assertEqual(path(fork(8, end(4), end(3))), [((0, 1), both), ((1, 1), [""])])
        self.assertEqual(path(fork(-1, end(-4), end(3))), [((0, 1), [""])])
        self.assertEqual(path(fork(0, end(-4), end(3))), [((0, 1), both), ((1, 1), [""])])
        self.assertEqual(path(fork(7, end(4), end(3))), [((0, 1), [""])])
        self.assertEqual(path(fork(-9, end(4), end(3))), [((0, 1), [""])])

    def test_ratios(self):
        tree = ("fork", (5, 2), ("fork", (1, 3), ("end", (1, 12)), ("end", (1, 12))), ("end", (2, 1)))
        self.assertEqual(
            path(tree), [((0, 1), ["n", "yn", "yy"]), ((1, 6), [""])],
        )
        tree = ("fork", (3, 1), ("fork", (1, 3), ("end", (1, 12)), ("end", (1, 12))), ("end", (2, 1)))
        self.assertEqual(path(tree), [((0, 1), ["n", "yn", "yy"]), ((1, 6), ["n", "y"]), ((2, 3), [""])])

    def test_what_starts_pruned_already(self):
        # At 0 the fork at "n" costs no more than what is beneath it.
        tree = fork(20, end(0), fork(6, fork(9, end(1), end(1)), end(4)))
        self.assertEqual(path(tree), [((0, 1), ["n", "y"]), ((14, 1), [""])])

    def test_two_alike_beside_one_another(self):
        tree = fork(30, fork(5, end(1), end(2)), fork(9, end(3), end(4)))
        self.assertEqual(path(tree), [((0, 1), ["nn", "ny", "yn", "yy"]), ((2, 1), ["n", "y"]), ((16, 1), [""])])

    def test_two_alike_one_beneath_the_other(self):
        tree = fork(40, fork(9, fork(5, end(1), end(2)), end(2)), end(4))
        self.assertEqual(path(tree), [((0, 1), ["n", "yn", "yyn", "yyy"]), ((2, 1), ["n", "y"]), ((27, 1), [""])])

    def test_upper_fork_with_the_lesser_link(self):
        # The fork beneath would be cut at 5; the one above goes at 3 already, and takes it along.
        tree = fork(40, fork(9, fork(8, end(1), end(2)), end(0)), end(4))
        self.assertEqual(path(tree), [((0, 1), ["n", "yn", "yyn", "yyy"]), ((3, 1), ["n", "y"]), ((27, 1), [""])])

    def test_all_links_alike(self):
        for tree in like_links():
            gain = link(tree, ends(tree), "")
            self.assertEqual(path(tree), [((0, 1), ends(tree)), (gain, [""])])
            self.check(tree)

    def test_small_trees(self):
        for tree in small_trees():
            self.check(tree)

    def test_chains_twenty_deep(self):
        for tree in chains():
            self.check(tree)
            self.check(with_gains(tree, itertools.cycle([Fraction(3), Fraction(1, 2), Fraction(2)])))
            self.assertEqual(len(self.check(rising_tree(tree))), 21)

    def test_large_trees(self):
        longest = 0
        for tree in large_trees():
            longest = max(longest, len(self.check(tree)))
        self.assertGreater(longest, 15)

    def test_sixty_steps(self):
        for base in (even_tree(60, counted_up()), deep_tree(counted_up()), deep_tree(counted_up(), "n")):
            steps = self.check(rising_tree(base))
            self.assertEqual([len(places) for price, places in steps], list(range(61, 0, -1)))

    def test_grown_trees(self):
        for tree in grown_trees():
            self.check(tree)

    def test_costs_of_thirty_figures(self):
        costs = large_costs(30)
        for tree in (even_tree(60, iter(costs)), deep_tree(iter(costs)), even_tree(60, reversed(costs))):
            self.check(tree)
        self.check(nudged(rising_tree(even_tree(60, counted_up())), 30, itertools.count(3, 2)))

    def test_costs_of_three_thousand_figures(self):
        tree = even_tree(60, iter(large_costs(3000)))
        steps = path(tree)
        self.check_form(tree, steps)
        for price, places in steps:
            self.assertEqual(places, cheapest(tree, price))
        for one, other in zip(steps[3:5], steps[4:6]):
            below = as_ratio((fraction(one[0]) + fraction(other[0])) / 2)
            self.assertEqual(cheapest(tree, below), one[1])

    def test_sixty_steps_with_costs_of_three_thousand_figures(self):
        tree = nudged(rising_tree(deep_tree(counted_up())), 2990, itertools.count(3, 2))
        steps = path(tree)
        self.check_form(tree, steps)
        self.assertEqual(len(steps), 61)
        for price, places in steps[::20]:
            self.assertEqual(places, cheapest(tree, price))

    def test_what_is_told_is_the_askers_own(self):
        for tree in (end(7), SMALL, rising_tree(even_tree(7, counted_up()))):
            want = path_by_hand(tree)
            told = path(tree)
            for price, places in told:
                places[0] = "spoiled"
                places.append("spoiled")
            told.clear()
            self.assertEqual(path(tree), want)

    def test_lists_told_are_unlike_ones(self):
        for tree in (SMALL, rising_tree(even_tree(7, counted_up()))):
            told = path(tree)
            want = path_by_hand(tree)
            told[0][1].clear()
            self.assertEqual(told[1:], want[1:])


class ForPrice(unittest.TestCase):
    def test_single_end(self):
        for price in PRICES:
            self.assertEqual(for_price(path(end(7)), price), [""])

    def test_small_tree(self):
        wanted = (
            ((0, 1), 0), ((1, 1), 0), ((149, 100), 0), ((3, 2), 1), ((151, 100), 1), ((299, 100), 1), ((3, 1), 2),
            ((301, 100), 2), ((10 ** 30, 1), 2), ((10 ** 2999, 1), 2), ((1, 10 ** 2999), 0),
        )
        for price, number in wanted:
            self.assertEqual(for_price(SMALL_PATH, price), SMALL_PATH[number][1])

    def test_right_below_and_right_above(self):
        large = 10 ** 2990
        for price, number in (((3 * large - 1, 2 * large), 0), ((3, 2), 1), ((3 * large + 1, 2 * large), 1)):
            self.assertEqual(for_price(SMALL_PATH, price), SMALL_PATH[number][1])

    def test_is_the_cheapest(self):
        for tree in small_trees()[::2] + large_trees() + like_links() + grown_trees()[:2]:
            steps = path(tree)
            for price in prices_around(steps):
                self.assertEqual(for_price(steps, price), cheapest(tree, price))
                self.assertEqual(for_price(steps, price), least_by_hand(tree, price)[2])

    def test_price_below_nought(self):
        for price in BELOW:
            for tree in (end(7), SMALL):
                steps = path(tree)
                with self.assertRaises(NoPrice) as caught:
                    for_price(steps, price)
                self.assertTrue(caught.exception.price == price)
                self.assertEqual(steps, path(tree))

    def test_list_told_is_the_askers_own(self):
        steps = path(SMALL)
        for price, number in (((0, 1), 0), ((2, 1), 1), ((3, 1), 2)):
            told = for_price(steps, price)
            self.assertIs(type(told), list)
            told[0] = "spoiled"
            told.append("spoiled")
            self.assertEqual(steps, SMALL_PATH)
            self.assertEqual(for_price(steps, price), SMALL_PATH[number][1])

    def test_path_changed_behind_the_call(self):
        steps = path(SMALL)
        told = for_price(steps, (2, 1))
        steps[1][1].append("spoiled")
        steps.clear()
        self.assertEqual(told, ["n", "y"])
        self.assertEqual(for_price(path(SMALL), (2, 1)), ["n", "y"])


class Whole(unittest.TestCase):
    def check_at(self, tree, known, price, places):
        totals = [(total_by_hand(tree, one, price), one) for one in known]
        least = min(one for one, other in totals)
        self.assertEqual(total_by_hand(tree, places, price), least)
        for one, other in totals:
            if one == least:
                self.assertTrue(lies_in(places, other), (tree, price, places, other))

    def test_against_all_prunings_of_small_trees(self):
        for tree in small_trees():
            known = all_prunings(tree)
            steps = path(tree)
            for price in prices_around(steps):
                self.check_at(tree, known, price, for_price(steps, price))

    def test_the_best_pruning_changes_at_the_told_prices_alone(self):
        for tree in small_trees():
            steps = path(tree)
            told = [fraction(price) for price, places in steps]
            known = [(len(places), total_by_hand(tree, places, (0, 1))) for places in all_prunings(tree)]
            crossings = {Fraction(0)}
            for one, other in itertools.combinations(known, 2):
                if one[0] != other[0] and (one[1] - other[1]) / (other[0] - one[0]) > 0:
                    crossings.add((one[1] - other[1]) / (other[0] - one[0]))
            # Between two neighbouring crossings no two prunings change places.
            changes = [Fraction(0)]
            rising = sorted(crossings)
            for number, price in enumerate(rising[1:]):
                below = as_ratio((rising[number] + price) / 2)
                if least_by_hand(tree, below)[2] != least_by_hand(tree, as_ratio(price))[2]:
                    changes.append(price)
            self.assertEqual(told, changes)


if __name__ == "__main__":
    unittest.main()
