"""Prunings: points [2], [16], [17], [18] and the interface, prunepath/prunings.py."""

import itertools
import unittest
from fractions import Fraction

from prunepath.costs import cost_at, costed, ends, forks
from prunepath.errors import NoPrice, NoPruning
from prunepath.grow import grow
from prunepath.prunings import cheapest, cost, how_many, is_pruning, lies_in, total
from samples import (
    BELOW, COLUMNS, MEASURES, NO_PRUNINGS, PRICES, SMALL, SMALL_PRUNINGS, all_prunings, as_ratio, counted_up,
    deep_tree, end, even_tree, figures, fork, fraction, large_trees, least_by_hand, shapes, small_trees, some_group,
    total_by_hand, with_costs,
)


def begins_with_one_of(place, places):
    return any(place[:len(one)] == one for one in places)


class IsPruning(unittest.TestCase):
    def test_small_tree(self):
        for places in SMALL_PRUNINGS:
            self.assertIs(is_pruning(SMALL, places), True)
        for places in NO_PRUNINGS:
            with self.subTest(places=places):
                self.assertIs(is_pruning(SMALL, places), False)

    def test_single_end(self):
        self.assertIs(is_pruning(end(7), [""]), True)
        for places in ([], ["", ""], ["y"], ["n"], ["n", "y"], ["", "y"], ["x"]):
            self.assertIs(is_pruning(end(7), places), False)

    def test_whole_tree_and_all_ends(self):
        for tree in small_trees() + large_trees():
            self.assertIs(is_pruning(tree, [""]), True)
            self.assertIs(is_pruning(tree, ends(tree)), True)
            self.assertIs(is_pruning(tree, []), False)

    def test_all_prunings_and_all_other_sorted_lists(self):
        for many in range(4):
            for shape in shapes(many):
                tree = with_costs(shape, counted_up())
                places = sorted(forks(tree) + ends(tree))
                known = all_prunings(tree)
                for size in range(len(places) + 1):
                    for some in itertools.combinations(places, size):
                        self.assertIs(is_pruning(tree, list(some)), list(some) in known)

    def test_other_orders_and_places_twice(self):
        for tree in small_trees():
            for places in all_prunings(tree)[1:]:
                self.assertIs(is_pruning(tree, places), True)
                self.assertIs(is_pruning(tree, places[::-1]), False)
                self.assertIs(is_pruning(tree, places[:1] + places), False)
                self.assertIs(is_pruning(tree, places + places[-1:]), False)

    def test_large_trees_spoiled(self):
        for tree in large_trees():
            places = ends(tree)
            for number, place in enumerate(places):
                self.assertIs(is_pruning(tree, places[:number] + places[number + 1:]), False)
                self.assertIs(is_pruning(tree, sorted(places + [place + "y"])), False)
                self.assertIs(is_pruning(tree, sorted(places + [place[:-1]])), False)
                self.assertIs(is_pruning(tree, sorted(places[:number] + places[number + 1:] + [place + "n"])), False)

    def test_what_is_handed_in_stays(self):
        for places in list(SMALL_PRUNINGS) + list(NO_PRUNINGS):
            before = list(places)
            is_pruning(SMALL, places)
            self.assertEqual(places, before)


class LiesIn(unittest.TestCase):
    def test_small_tree_both_ways(self):
        for one, other in itertools.product(range(4), repeat=2):
            self.assertIs(lies_in(SMALL_PRUNINGS[one], SMALL_PRUNINGS[other]), one <= other)

    def test_neither_lies_in_the_other(self):
        one = ["n", "yn", "yy"]
        other = ["nn", "ny", "y"]
        self.assertIs(lies_in(one, other), False)
        self.assertIs(lies_in(other, one), False)

    def test_each_in_itself(self):
        for tree in small_trees():
            for places in all_prunings(tree):
                self.assertIs(lies_in(places, places), True)
                self.assertIs(lies_in([""], places), True)
                self.assertIs(lies_in(places, ends(tree)), True)
                self.assertIs(lies_in(places, [""]), places == [""])
                self.assertIs(lies_in(ends(tree), places), places == ends(tree))

    def test_all_pairs(self):
        for shape in shapes(4):
            known = all_prunings(with_costs(shape, counted_up()))
            for one, other in itertools.product(known, repeat=2):
                want = all(begins_with_one_of(place, one) for place in other)
                self.assertIs(lies_in(one, other), want)

    def test_large_trees(self):
        for tree in large_trees():
            self.assertIs(lies_in([""], ends(tree)), True)
            self.assertIs(lies_in(ends(tree), [""]), False)
            self.assertIs(lies_in(ends(tree), ends(tree)), True)

    def test_what_is_handed_in_stays(self):
        one = ["n", "y"]
        other = ["nn", "ny", "y"]
        lies_in(one, other)
        self.assertEqual((one, other), (["n", "y"], ["nn", "ny", "y"]))


class CostAndTotal(unittest.TestCase):
    def check(self, tree, places, price):
        before = list(places)
        self.assertTrue(cost(tree, places) == as_ratio(total_by_hand(tree, places, (0, 1))), "another cost")
        self.assertTrue(total(tree, places, price) == as_ratio(total_by_hand(tree, places, price)), "another total")
        self.assertEqual(places, before)

    def test_small_tree(self):
        self.assertEqual([cost(SMALL, places) for places in SMALL_PRUNINGS], [(9, 1), (6, 1), (8, 1), (3, 1)])
        self.assertEqual(
            [total(SMALL, places, (1, 2)) for places in SMALL_PRUNINGS], [(19, 2), (7, 1), (19, 2), (5, 1)],
        )
        self.assertEqual([total(SMALL, places, (0, 1)) for places in SMALL_PRUNINGS], [(9, 1), (6, 1), (8, 1), (3, 1)])

    def test_single_end(self):
        self.assertEqual(cost(end(-7), [""]), (-7, 1))
        self.assertEqual(total(end(-7), [""], (1, 3)), (-20, 3))

    def test_lowest_terms(self):
        tree = ("fork", (1, 2), ("end", (1, 6)), ("end", (-1, 6)))
        self.assertEqual(cost(tree, ["n", "y"]), (0, 1))
        self.assertEqual(total(tree, ["n", "y"], (1, 4)), (1, 2))
        self.assertEqual(total(tree, [""], (1, 2)), (1, 1))

    def test_all_prunings_of_small_trees(self):
        for tree in small_trees():
            for places in all_prunings(tree)[:12]:
                for price in PRICES:
                    self.check(tree, places, price)

    def test_large_trees(self):
        for tree in large_trees():
            for price in PRICES:
                self.check(tree, ends(tree), price)
                self.check(tree, [""], price)
                self.check(tree, ["n", "y"], price)

    def test_three_thousand_figures(self):
        costs = [Fraction(figures(3000, seed) * (-1) ** seed, figures(3000, seed + 1)) for seed in range(3, 124)]
        price = as_ratio(Fraction(figures(3000, 201), figures(3000, 203)))
        tree = even_tree(60, map(as_ratio, costs))
        self.check(tree, ends(tree), price)

    def test_no_pruning(self):
        for places in NO_PRUNINGS:
            with self.subTest(places=places):
                before = list(places)
                with self.assertRaises(NoPruning):
                    cost(SMALL, places)
                for price in PRICES:
                    with self.assertRaises(NoPruning):
                        total(SMALL, places, price)
                self.assertEqual(places, before)

    def test_no_pruning_of_an_end(self):
        for places in ([], ["y"], ["n", "y"], ["", ""]):
            with self.assertRaises(NoPruning):
                cost(end(7), places)
            with self.assertRaises(NoPruning):
                total(end(7), places, (1, 1))

    def test_price_below_nought(self):
        for price in BELOW:
            for places in SMALL_PRUNINGS + NO_PRUNINGS:
                # Of both refusals it is the price's.
                with self.assertRaises(NoPrice) as caught:
                    total(SMALL, places, price)
                self.assertTrue(caught.exception.price == price)


class Cheapest(unittest.TestCase):
    def test_single_end(self):
        for price in PRICES:
            self.assertEqual(cheapest(end(7), price), [""])
            self.assertEqual(cheapest(end(-7), price), [""])

    def test_fork_where_both_come_to_the_same(self):
        # The fork's cost and one price are just both totals at the price 3.
        tree = fork(10, end(4), end(3))
        self.assertEqual(cheapest(tree, (3, 1)), [""])
        self.assertEqual(cheapest(tree, (3 * 10 ** 40 - 1, 10 ** 40)), ["n", "y"])
        self.assertEqual(cheapest(tree, (3 * 10 ** 40 + 1, 10 ** 40)), [""])
        self.assertEqual(cheapest(fork(7, end(4), end(3)), (0, 1)), [""])
        self.assertEqual(cheapest(fork(8, end(4), end(3)), (0, 1)), ["n", "y"])
        self.assertEqual(cheapest(fork(6, end(4), end(3)), (0, 1)), [""])

    def test_costs_of_either_sign(self):
        self.assertEqual(cheapest(fork(-3, end(-2), end(-2)), (0, 1)), ["n", "y"])
        self.assertEqual(cheapest(fork(-3, end(-2), end(-2)), (1, 1)), [""])
        self.assertEqual(cheapest(fork(-5, end(-2), end(-2)), (0, 1)), [""])
        self.assertEqual(cheapest(fork(0, end(-2), end(2)), (0, 1)), [""])

    def test_small_tree(self):
        wanted = (((0, 1), 3), ((1, 1), 3), ((149, 100), 3), ((3, 2), 1), ((151, 100), 1), ((299, 100), 1), ((3, 1), 0))
        for price, number in wanted:
            self.assertEqual(cheapest(SMALL, price), SMALL_PRUNINGS[number])

    def test_inner_fork_that_is_worth_it_below_one_that_is_not(self):
        # At "n" the fork is as dear as its leaves; at "ny" cutting alone would be dearer.
        tree = fork(20, end(0), fork(6, fork(9, end(1), end(1)), end(4)))
        self.assertEqual(cheapest(tree, (0, 1)), ["n", "y"])
        self.assertEqual(cheapest(tree, (20, 1)), [""])

    def test_against_all_prunings_of_small_trees(self):
        for tree in small_trees():
            known = all_prunings(tree)
            for price in PRICES:
                found = cheapest(tree, price)
                self.assertIn(found, known)
                totals = [(total_by_hand(tree, places, price), places) for places in known]
                least = min(one for one, places in totals)
                self.assertEqual(total_by_hand(tree, found, price), least)
                for one, places in totals:
                    if one == least:
                        self.assertTrue(lies_in(found, places), (tree, price, found, places))

    def test_prices_at_which_two_prunings_come_to_the_same(self):
        for tree in small_trees():
            known = all_prunings(tree)[:15]
            told = [(len(places), total_by_hand(tree, places, (0, 1))) for places in known]
            for one, other in itertools.combinations(told, 2):
                if one[0] != other[0] and (one[1] - other[1]) / (other[0] - one[0]) >= 0:
                    price = as_ratio((one[1] - other[1]) / (other[0] - one[0]))
                    self.assertEqual(cheapest(tree, price), least_by_hand(tree, price)[2])

    def test_large_trees(self):
        sizes = {}
        for tree in large_trees():
            for price in PRICES + [as_ratio(Fraction(number, 4)) for number in range(100)]:
                found = cheapest(tree, price)
                self.assertEqual(found, least_by_hand(tree, price)[2])
                self.assertTrue(is_pruning(tree, found))
                self.assertEqual(total(tree, found, price), as_ratio(least_by_hand(tree, price)[0]))
                sizes[len(found)] = True
        self.assertGreater(len(sizes), 15)

    def test_large_prices(self):
        for tree in small_trees() + large_trees():
            self.assertEqual(cheapest(tree, (10 ** 2999, 1)), [""])

    def test_grown_trees(self):
        for seed, measure in itertools.product(range(4), MEASURES):
            tree = costed(grow(COLUMNS, some_group(seed, 60), measure), measure)
            for price in PRICES:
                self.assertEqual(cheapest(tree, price), least_by_hand(tree, price)[2])

    def test_three_thousand_figures(self):
        costs = [Fraction(figures(3000, seed) * (-1) ** seed, figures(3000, seed + 1)) for seed in range(3, 124)]
        for tree in (even_tree(60, map(as_ratio, costs)), deep_tree(map(as_ratio, costs))):
            for price in ((0, 1), as_ratio(Fraction(figures(3000, 201), figures(3000, 203)))):
                self.assertEqual(cheapest(tree, price), least_by_hand(tree, price)[2])

    def test_three_thousand_figures_that_differ_very_little(self):
        large = 10 ** 2999
        for add, want in ((-1, [""]), (0, [""]), (1, ["n", "y"])):
            tree = ("fork", (large + add, 1), ("end", (large - 7, 1)), ("end", (7, 1)))
            self.assertEqual(cheapest(tree, (0, 1)), want)

    def test_price_below_nought(self):
        for price in BELOW:
            for tree in (end(7), SMALL, deep_tree(counted_up())):
                with self.assertRaises(NoPrice) as caught:
                    cheapest(tree, price)
                self.assertTrue(caught.exception.price == price)

    def test_list_told_is_the_askers_own(self):
        for tree in (end(7), SMALL):
            for price in PRICES:
                told = cheapest(tree, price)
                self.assertIs(type(told), list)
                want = list(told)
                told[0] = "spoiled"
                told.append("spoiled")
                self.assertEqual(cheapest(tree, price), want)


class HowMany(unittest.TestCase):
    def test_end_and_fork(self):
        self.assertEqual(how_many(end(7)), 1)
        self.assertEqual(how_many(fork(1, end(2), end(3))), 2)
        self.assertEqual(how_many(SMALL), 4)
        self.assertEqual(how_many(fork(1, fork(1, end(1), end(1)), fork(1, end(1), end(1)))), 5)
        self.assertIs(type(how_many(end(7))), int)

    def test_against_all_prunings_of_small_trees(self):
        for tree in small_trees():
            self.assertEqual(how_many(tree), len(all_prunings(tree)))

    def test_sixty_forks(self):
        tree = end(0)
        for step in range(60):
            tree = fork(0, tree, end(0))
        self.assertEqual(how_many(tree), 61)
        # A tree of fifteen forks, all four levels full: 1, 2, 5, 26, 677 prunings, level by level.
        full = end(0)
        for step in range(4):
            full = fork(0, full, full)
        self.assertEqual(how_many(full), 677)
        self.assertEqual(how_many(fork(0, fork(0, full, full), full)), 1 + (1 + 677 * 677) * 677)
        self.assertEqual(len(forks(deep_tree(counted_up()))), 60)
        for tree in large_trees():
            self.assertEqual(how_many(tree), self.by_counting(tree))

    def by_counting(self, tree):
        # How many there are of each size, summed up: another way than the program's.
        def sizes(part):
            told = {1: 1}
            if part[0] == "fork":
                pairs = itertools.product(sizes(part[2]).items(), sizes(part[3]).items())
                for (one, first), (other, second) in pairs:
                    told[one + other] = told.get(one + other, 0) + first * second
            return told

        return sum(sizes(tree).values())


class Together(unittest.TestCase):
    def test_cost_is_the_sum_of_the_costs_at_its_places(self):
        for tree in large_trees():
            places = cheapest(tree, (1, 1))
            self.assertEqual(fraction(cost(tree, places)), sum(fraction(cost_at(tree, place)) for place in places))


if __name__ == "__main__":
    unittest.main()
