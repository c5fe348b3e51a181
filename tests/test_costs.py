"""Costed trees: points [2], [8], [15] and the interface, prunepath/costs.py."""

import itertools
import unittest

from prunepath.costs import cost_at, costed, ends, forks
from prunepath.errors import NoMeasure, NoPlace
from prunepath.groups import mess
from prunepath.grow import grow
from prunepath.nodes import Fork, Leaf
from samples import (
    COLUMNS, MEASURES, NO_MEASURES, costs_in_turn, deep_tree, end, even_tree, fork, some_group, trees_and_places,
)

LARGE = 10 ** 30 - 1
MOST = ("most", 0, 5)
SMALL = fork(9, end(1), fork(5, fork(3, end(-2), end(0)), end(4)))


def counted_up():
    return costs_in_turn([(number, 1) for number in range(-50, 80)])


def large_trees():
    return [even_tree(60, counted_up()), deep_tree(counted_up()), deep_tree(counted_up(), "n")]


def chain(long):
    node = Leaf([("a", 1), ("b", 1)])
    for step in range(long):
        node = Fork([("a", step + 2), ("b", 3)], MOST, Leaf([("a", 1)]), node)
    return node


class Costed(unittest.TestCase):
    def check(self, node, tree, measure):
        self.assertIs(type(tree), tuple)
        self.assertEqual(tree[1], mess(node.counted, measure))
        self.assertIs(type(tree[1]), tuple)
        if isinstance(node, Leaf):
            self.assertEqual((tree[0], len(tree)), ("end", 2))
        else:
            self.assertEqual((tree[0], len(tree)), ("fork", 4))
            self.check(node.yes, tree[2], measure)
            self.check(node.no, tree[3], measure)

    def test_leaf(self):
        self.assertEqual(costed(Leaf([]), "misses"), ("end", (0, 1)))
        self.assertEqual(costed(Leaf([]), "shares"), ("end", (0, 1)))
        self.assertEqual(costed(Leaf([("a", 1), ("b", 3)]), "misses"), ("end", (1, 1)))
        self.assertEqual(costed(Leaf([("a", 1), ("b", 3)]), "shares"), ("end", (3, 2)))

    def test_forks_by_hand(self):
        inner = Fork([("a", 1), ("b", 2)], MOST, Leaf([("a", 1), ("b", 1)]), Leaf([("b", 1)]))
        node = Fork([("a", 3), ("b", 2)], MOST, Leaf([("a", 2)]), inner)
        self.assertEqual(costed(node, "misses"), (
            "fork", (2, 1), ("end", (0, 1)), ("fork", (1, 1), ("end", (1, 1)), ("end", (0, 1))),
        ))
        self.assertEqual(costed(node, "shares"), (
            "fork", (12, 5), ("end", (0, 1)), ("fork", (4, 3), ("end", (1, 1)), ("end", (0, 1))),
        ))

    def test_counts_of_thirty_figures(self):
        node = Fork([("a", LARGE), ("b", LARGE - 1)], MOST, Leaf([("a", LARGE)]), Leaf([("b", 10 ** 29)]))
        self.assertEqual(costed(node, "misses"), ("fork", (LARGE - 1, 1), ("end", (0, 1)), ("end", (0, 1))))
        self.check(node, costed(node, "shares"), "shares")

    def test_grown_trees(self):
        for seed, measure in itertools.product(range(4), MEASURES):
            node = grow(COLUMNS, some_group(seed, 60), measure)
            for other in MEASURES:
                self.check(node, costed(node, other), other)

    def test_twenty_deep(self):
        for measure in MEASURES:
            self.check(chain(20), costed(chain(20), measure), measure)

    def test_one_tree_at_several_places(self):
        shared = chain(3)
        node = Fork([("a", 1), ("b", 1)], MOST, shared, Fork([], MOST, shared, shared))
        for measure in MEASURES:
            self.check(node, costed(node, measure), measure)

    def test_places_are_those_of_the_tree(self):
        for seed in range(4):
            node = grow(COLUMNS, some_group(seed, 40))
            tree = costed(node, "shares")
            self.assertEqual(ends(tree), node.places())
            for place in forks(tree) + ends(tree):
                self.assertEqual(cost_at(tree, place), mess(node.at(place).counted, "shares"))

    def test_another_measure_is_refused(self):
        for measure in NO_MEASURES:
            for node in (Leaf([]), Leaf([("a", 1)]), chain(1), chain(20)):
                with self.subTest(measure=measure):
                    with self.assertRaises(NoMeasure):
                        costed(node, measure)

    def test_counts_handed_in_may_be_changed_behind(self):
        counted = [("a", 1), ("b", 3)]
        node = Leaf(counted)
        told = costed(node, "misses")
        counted.clear()
        self.assertEqual(told, ("end", (1, 1)))
        self.assertEqual(costed(node, "misses"), ("end", (1, 1)))
        self.assertEqual(node.counted, [("a", 1), ("b", 3)])


class Places(unittest.TestCase):
    def test_single_end(self):
        self.assertEqual(forks(end(7)), [])
        self.assertEqual(ends(end(7)), [""])

    def test_small_trees(self):
        self.assertEqual(forks(fork(1, end(2), end(3))), [""])
        self.assertEqual(ends(fork(1, end(2), end(3))), ["n", "y"])
        self.assertEqual(forks(SMALL), ["", "n", "ny"])
        self.assertEqual(ends(SMALL), ["nn", "nyn", "nyy", "y"])

    def test_sixty_forks_and_twenty_deep(self):
        for tree in large_trees():
            found = trees_and_places(tree)
            self.assertEqual(forks(tree), sorted(place for place, part in found if part[0] == "fork"))
            self.assertEqual(ends(tree), sorted(place for place, part in found if part[0] == "end"))
            self.assertEqual((len(forks(tree)), len(ends(tree))), (60, 61))
        self.assertEqual([max(len(place) for place in ends(tree)) for tree in large_trees()], [6, 20, 20])

    def test_one_tree_at_several_places(self):
        tree = fork(0, SMALL, SMALL)
        self.assertEqual(forks(tree), ["", "n", "nn", "nny", "y", "yn", "yny"])
        self.assertEqual(ends(tree), ["nnn", "nnyn", "nnyy", "ny", "ynn", "ynyn", "ynyy", "yy"])

    def test_lists_told_are_the_askers_own(self):
        for asked in (forks, ends):
            for tree in (end(7), SMALL):
                told = asked(tree)
                self.assertIs(type(told), list)
                want = list(told)
                told.append("spoiled")
                self.assertEqual(asked(tree), want)


class CostAt(unittest.TestCase):
    def check_refused(self, tree, place):
        with self.assertRaises(NoPlace) as caught:
            cost_at(tree, place)
        self.assertEqual(caught.exception.place, place)

    def test_small_tree(self):
        want = {"": 9, "y": 1, "n": 5, "ny": 3, "nyy": -2, "nyn": 0, "nn": 4}
        for place, one in want.items():
            self.assertEqual(cost_at(SMALL, place), (one, 1))

    def test_every_place_of_large_trees(self):
        for tree in large_trees():
            for place, part in trees_and_places(tree):
                self.assertEqual(cost_at(tree, place), part[1])

    def test_ratios_of_three_thousand_figures(self):
        large = (-(10 ** 3000 - 1), 10 ** 2999)
        small = (1, 10 ** 3000 - 1)
        tree = ("fork", large, ("end", small), ("end", (0, 1)))
        self.assertTrue(cost_at(tree, "") == large)
        self.assertTrue(cost_at(tree, "y") == small)

    def test_no_place(self):
        for place in ("y", "n", "x", " ", "y" * 40):
            self.check_refused(end(7), place)
        for place in ("yy", "yn", "nnn", "nyyy", "Y", "N", "x", " ", " y", "y ", "n n", "nx", "yes", "no", "n" * 40):
            self.check_refused(SMALL, place)

    def test_no_place_in_large_trees(self):
        for tree in large_trees():
            for place in ends(tree):
                self.check_refused(tree, place + "y")
                self.check_refused(tree, place + "n")
                self.check_refused(tree, place[:-1] + "x")


if __name__ == "__main__":
    unittest.main()
