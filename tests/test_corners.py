"""Corners, and how the ladder meets the path: points [2], [3], [24], [25] and the interface, prunepath/corners.py."""

import itertools
import math
import random
import unittest
from fractions import Fraction

from prunepath.corners import corners
from prunepath.costs import costed
from prunepath.grow import grow
from prunepath.ladders import ladder
from prunepath.paths import path
from samples import (
    COLUMNS, MEASURES, as_ratio, counted_up, deep_tree, even_tree, figures, fraction, large_costs, large_trees,
    rising_tree, small_trees, some_group, with_gains,
)


def best_by_hand(points, price):
    # The leaves of the best point.
    return min((fraction(cost) + price * leaves, leaves) for leaves, cost in points)[1]


def crossings(points):
    told = {Fraction(0)}
    for (fewer, dearer), (more, cheaper) in itertools.combinations(points, 2):
        price = (fraction(dearer) - fraction(cheaper)) / (more - fewer)
        if price > 0:
            told.add(price)
    return sorted(told)


def corners_by_hand(points):
    # Between two neighbouring crossings no two points change places.
    prices = crossings(points)
    told = [((0, 1), best_by_hand(points, Fraction(0)))]
    for one, other in zip(prices, prices[1:]):
        if best_by_hand(points, (one + other) / 2) != best_by_hand(points, other):
            told.append((as_ratio(other), best_by_hand(points, other)))
    return told


def points_of(costs, leaves=None):
    leaves = leaves or range(1, len(costs) + 1)
    return [(many, (cost, 1)) for many, cost in zip(leaves, costs)]


def some_points(seed, many, unlike, leaves=12, bottoms=(1, 1, 2, 3)):
    # Few unlike costs, so that points on one line come up often.
    chance = random.Random(seed)
    numbers = sorted(chance.sample(range(1, leaves + 1), many))
    return [
        (number, as_ratio(Fraction(chance.randrange(-unlike, unlike + 1), chance.choice(bottoms))))
        for number in numbers
    ]


class Corners(unittest.TestCase):
    def check_form(self, points, told):
        self.assertIs(type(told), list)
        self.assertEqual(told[0][0], (0, 1))
        for step in told:
            self.assertIs(type(step), tuple)
            self.assertEqual(len(step), 2)
            self.assertTrue(step[0][1] >= 1 and math.gcd(step[0][0], step[0][1]) == 1, "no ratio in lowest terms")
            self.assertIn(step[1], [leaves for leaves, cost in points])
        for one, other in zip(told, told[1:]):
            self.assertTrue(fraction(one[0]) < fraction(other[0]), "prices that don't rise")
            self.assertGreater(one[1], other[1])

    def check(self, points):
        before = list(points)
        told = corners(points)
        self.assertEqual(points, before)
        self.check_form(points, told)
        self.assertEqual(told, corners_by_hand(points))
        return told

    def test_no_points(self):
        self.assertEqual(corners([]), [])

    def test_one_point(self):
        for leaves in (1, 2, 7, 10 ** 29, 10 ** 30 - 1):
            for cost in ((0, 1), (-7, 3), (7, 3), (10 ** 2999, 1)):
                self.assertEqual(corners([(leaves, cost)]), [((0, 1), leaves)])

    def test_two_points(self):
        self.assertEqual(corners(points_of([5, 2])), [((0, 1), 2), ((3, 1), 1)])
        self.assertEqual(corners(points_of([-2, -5])), [((0, 1), 2), ((3, 1), 1)])
        self.assertEqual(corners([(1, (5, 1)), (3, (0, 1))]), [((0, 1), 3), ((5, 2), 1)])
        self.assertEqual(corners([(4, (1, 2)), (7, (1, 3))]), [((0, 1), 7), ((1, 18), 4)])

    def test_line_that_falls(self):
        self.assertEqual(corners(points_of([3, 2, 1])), [((0, 1), 3), ((1, 1), 1)])
        self.assertEqual(corners(points_of([0, -2, -4, -6, -8])), [((0, 1), 5), ((2, 1), 1)])
        self.assertEqual(corners(points_of([9, 7, 1], (2, 3, 6))), [((0, 1), 6), ((2, 1), 2)])
        halves = [(many, as_ratio(Fraction(30 - many, 2))) for many in range(1, 30)]
        self.assertEqual(corners(halves), [((0, 1), 29), ((1, 2), 1)])

    def test_line_that_does_not_fall(self):
        self.assertEqual(corners(points_of([3, 3, 3])), [((0, 1), 1)])
        self.assertEqual(corners(points_of([3, 4, 5])), [((0, 1), 1)])
        self.assertEqual(corners(points_of([-3, 0, 3], (5, 6, 7))), [((0, 1), 5)])

    def test_turned_up_and_down(self):
        self.assertEqual(corners(points_of([10, 4, 1, 0])), [((0, 1), 4), ((1, 1), 3), ((3, 1), 2), ((6, 1), 1)])
        self.assertEqual(corners(points_of([10, 9, 6, 0])), [((0, 1), 4), ((10, 3), 1)])
        self.assertEqual(corners(points_of([10, 4, 4, 4])), [((0, 1), 2), ((6, 1), 1)])
        self.assertEqual(corners(points_of([10, 4, 6, 3, 8])), [((0, 1), 4), ((1, 2), 2), ((6, 1), 1)])
        self.assertEqual(corners(points_of([9, 6, 8, 3])), [((0, 1), 4), ((3, 2), 2), ((3, 1), 1)])

    def test_two_lines(self):
        # Steeper first: two points of each line are corners, the ones between are none.
        points = points_of([20, 15, 10, 5, 3, 1, -1])
        self.assertEqual(corners(points), [((0, 1), 7), ((2, 1), 4), ((5, 1), 1)])
        # The last point lies on the first line, too: all between go.
        self.assertEqual(corners(points_of([20, 18, 16, 13, 12, 11, 2])), [((0, 1), 7), ((3, 1), 1)])

    def test_every_row_of_small_costs(self):
        for many in (2, 3, 4):
            for costs in itertools.product(range(-2, 4), repeat=many):
                self.check(points_of(costs))

    def test_many_points(self):
        for seed in range(120):
            for unlike in (2, 5, 30):
                self.check(some_points(seed, 2 + seed % 9, unlike))

    def test_sixty_points(self):
        for seed in range(3):
            self.check(some_points(seed, 61, 400, leaves=90))
        falling = points_of([(60 - many) * (60 - many) for many in range(1, 61)])
        self.assertEqual(len(self.check(falling)), 60)

    def test_large_leaves_and_costs(self):
        leaves = sorted(figures(size, seed) for size in (29, 30) for seed in (3, 5, 7))
        for seed in range(30):
            chance = random.Random(seed)
            costs = [Fraction(chance.randrange(-10 ** 30, 10 ** 30), chance.randrange(1, 10 ** 30)) for one in leaves]
            self.check([(one, as_ratio(cost)) for one, cost in zip(leaves, costs)])
            falling = [Fraction(chance.randrange(10 ** 30) - number * 10 ** 30) for number in range(len(leaves))]
            self.check([(one, as_ratio(cost)) for one, cost in zip(leaves, falling)])

    def test_costs_of_three_thousand_figures(self):
        costs = large_costs(3000)[:7]
        for told in (costs, sorted(costs, key=fraction, reverse=True), sorted(costs, key=fraction)):
            points = [(number + 1, cost) for number, cost in enumerate(told)]
            found = corners(points)
            self.assertTrue(found == corners_by_hand(points), "other corners")

    def test_costs_that_differ_very_little(self):
        large = 10 ** 2999
        for add, want in (
            (-1, [((0, 1), 3), ((1, 1), 1)]),
            (0, [((0, 1), 3), ((1, 1), 1)]),
        ):
            # From the line's middle point on, or above it: it is no corner.
            points = [(1, (3, 1)), (2, as_ratio(2 - Fraction(add, large))), (3, (1, 1))]
            self.assertEqual(corners(points), want)
        below = as_ratio(2 - Fraction(1, large))
        told = corners([(1, (3, 1)), (2, below), (3, (1, 1))])
        self.assertEqual([leaves for price, leaves in told], [3, 2, 1])
        self.assertTrue(told[1][0] == as_ratio(1 - Fraction(1, large)))
        self.assertTrue(told[2][0] == as_ratio(1 + Fraction(1, large)))

    def test_right_below_each_told_price_another_one_is_best(self):
        for seed in range(40):
            points = some_points(seed, 8, 6)
            told = corners(points)
            tiny = Fraction(1, 10 ** 40)
            for one, other in zip(told, told[1:]):
                price = fraction(other[0])
                self.assertEqual(best_by_hand(points, price - tiny), one[1])
                self.assertEqual(best_by_hand(points, price), other[1])
                self.assertEqual(best_by_hand(points, price + tiny), other[1])
            self.assertEqual(best_by_hand(points, fraction(told[-1][0]) * 2 + 10 ** 9), told[-1][1])

    def test_list_told_is_the_askers_own(self):
        points = points_of([10, 4, 1, 0])
        told = corners(points)
        told[0] = "spoiled"
        told.append("spoiled")
        self.assertEqual(corners(points), [((0, 1), 4), ((1, 1), 3), ((3, 1), 2), ((6, 1), 1)])
        self.assertEqual(points, points_of([10, 4, 1, 0]))
        empty = corners([])
        empty.append("spoiled")
        self.assertEqual(corners([]), [])


class LadderAndPath(unittest.TestCase):
    def check(self, tree):
        points = [(leaves, cost) for leaves, cost, places in ladder(tree)]
        steps = [(price, len(places)) for price, places in path(tree)]
        self.assertEqual(corners(points), steps)

    def test_small_trees(self):
        for tree in small_trees():
            self.check(tree)

    def test_large_trees(self):
        for tree in large_trees():
            self.check(tree)
        for base in (even_tree(60, counted_up()), deep_tree(counted_up())):
            self.check(rising_tree(base))
            self.check(with_gains(base, itertools.repeat(Fraction(7, 3))))

    def test_costs_of_thirty_figures(self):
        costs = large_costs(30)
        for tree in (even_tree(60, iter(costs)), deep_tree(iter(costs)), deep_tree(reversed(costs), "n")):
            self.check(tree)

    def test_grown_trees(self):
        for seed, measure in itertools.product(range(6), MEASURES):
            self.check(costed(grow(COLUMNS, some_group(seed, 60), measure), measure))


if __name__ == "__main__":
    unittest.main()
