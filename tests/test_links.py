"""Forks inside a pruning, links, cutting: points [2], [19], [20] and the interface, prunepath/links.py."""

import itertools
import math
import unittest

from prunepath.costs import costed, ends, forks
from prunepath.errors import NoPlace, NoPruning
from prunepath.grow import grow
from prunepath.links import cut, inside, link
from prunepath.prunings import cheapest, is_pruning
from samples import (
    COLUMNS, MEASURES, NO_PRUNINGS, PRICES, SMALL, SMALL_PRUNINGS, all_prunings, as_ratio, counted_up, deep_tree, end,
    even_tree, figures, fork, large_costs, large_trees, link_by_hand, shapes, small_trees, some_group,
    total_by_hand, with_costs,
)

NO_FORKS = ("x", "Y", "yes", "n n", " ", "nx", "y" * 40, "nyy" * 13, "(", "ny\n", ".")


def inside_by_hand(tree, places):
    told = []
    for place in forks(tree):
        starts = [place[:size] for size in range(len(place) + 1)]
        if not any(start in places for start in starts):
            told.append(place)
    return told


def cut_by_hand(places, some):
    # Fork by fork: what stands beneath one goes, and it comes in, unless it stands beneath one itself.
    told = list(places)
    for one in sorted(some, key=len, reverse=True):
        told = [place for place in told if place[:len(one)] != one] + [one]
    return sorted(told)


class Inside(unittest.TestCase):
    def test_small_tree(self):
        wanted = ([], [""], ["", "n"], ["", "n", "ny"])
        for places, want in zip(SMALL_PRUNINGS, wanted):
            self.assertEqual(inside(SMALL, places), want)

    def test_single_end(self):
        self.assertEqual(inside(end(7), [""]), [])

    def test_whole_tree_and_all_ends(self):
        for tree in small_trees() + large_trees():
            self.assertEqual(inside(tree, [""]), [])
            self.assertEqual(inside(tree, ends(tree)), forks(tree))

    def test_mixed_prunings(self):
        tree = fork(1, fork(2, end(3), fork(4, end(5), end(6))), fork(7, fork(8, end(9), end(1)), end(2)))
        self.assertEqual(inside(tree, ["n", "y"]), [""])
        self.assertEqual(inside(tree, ["n", "yn", "yy"]), ["", "y"])
        self.assertEqual(inside(tree, ["nn", "ny", "y"]), ["", "n"])
        self.assertEqual(inside(tree, ["n", "ynn", "yny", "yy"]), ["", "y", "yn"])
        self.assertEqual(inside(tree, ["nn", "nyn", "nyy", "yn", "yy"]), ["", "n", "ny", "y"])

    def test_all_prunings_of_small_trees(self):
        for tree in small_trees():
            for places in all_prunings(tree):
                told = inside(tree, places)
                self.assertEqual(told, inside_by_hand(tree, places))
                self.assertEqual(told, sorted(told))
                # A pruning has one leaf more than there are forks inside it.
                self.assertEqual(len(told), len(places) - 1)

    def test_large_trees(self):
        for tree in large_trees():
            for price in PRICES:
                places = cheapest(tree, price)
                self.assertEqual(inside(tree, places), inside_by_hand(tree, places))

    def test_no_pruning(self):
        for places in NO_PRUNINGS:
            with self.subTest(places=places):
                before = list(places)
                with self.assertRaises(NoPruning):
                    inside(SMALL, places)
                self.assertEqual(places, before)
        for places in ([], ["y"], ["n", "y"], ["", ""]):
            with self.assertRaises(NoPruning):
                inside(end(7), places)

    def test_list_told_is_the_askers_own(self):
        places = ["nn", "ny", "y"]
        told = inside(SMALL, places)
        self.assertIs(type(told), list)
        told[0] = "spoiled"
        told.append("spoiled")
        self.assertEqual(inside(SMALL, places), ["", "n"])
        self.assertEqual(places, ["nn", "ny", "y"])
        places.clear()
        self.assertEqual(inside(SMALL, ["nn", "ny", "y"]), ["", "n"])


class Link(unittest.TestCase):
    def check(self, tree, places, place):
        before = list(places)
        told = link(tree, places, place)
        self.assertIs(type(told), tuple)
        self.assertTrue(told[1] >= 1 and math.gcd(told[0], told[1]) == 1, "no ratio in lowest terms")
        self.assertTrue(told == as_ratio(link_by_hand(tree, places, place)), "another link")
        self.assertEqual(places, before)

    def check_all(self, tree, places):
        for place in inside(tree, places):
            self.check(tree, places, place)

    def test_small_tree(self):
        self.assertEqual(link(SMALL, ["n", "y"], ""), (3, 1))
        self.assertEqual(link(SMALL, ["nn", "ny", "y"], ""), (1, 2))
        self.assertEqual(link(SMALL, ["nn", "ny", "y"], "n"), (-2, 1))
        self.assertEqual(link(SMALL, ["nn", "nyn", "nyy", "y"], ""), (2, 1))
        self.assertEqual(link(SMALL, ["nn", "nyn", "nyy", "y"], "n"), (3, 2))
        self.assertEqual(link(SMALL, ["nn", "nyn", "nyy", "y"], "ny"), (5, 1))

    def test_lowest_terms(self):
        tree = ("fork", (5, 6), ("fork", (7, 1), ("end", (1, 6)), ("end", (1, 3))), ("end", (-1, 6)))
        self.assertEqual(link(tree, ["n", "yn", "yy"], ""), (1, 4))
        self.assertEqual(link(tree, ["n", "yn", "yy"], "y"), (13, 2))
        self.assertEqual(link(fork(7, end(4), end(3)), ["n", "y"], ""), (0, 1))
        three = fork(10, fork(0, end(1), end(1)), end(2))
        self.assertEqual(link(three, ["n", "yn", "yy"], ""), (3, 1))
        self.assertEqual(link(fork(4, fork(0, end(1), end(1)), end(2)), ["n", "yn", "yy"], ""), (0, 1))

    def test_each_fork_inside_each_pruning_of_small_trees(self):
        for tree in small_trees():
            for places in all_prunings(tree):
                self.check_all(tree, places)

    def test_large_trees(self):
        for tree in large_trees():
            for places in (ends(tree), cheapest(tree, (1, 1))):
                self.check_all(tree, places)

    def test_grown_trees(self):
        for seed, measure in itertools.product(range(3), MEASURES):
            tree = costed(grow(COLUMNS, some_group(seed, 40), measure), measure)
            self.check_all(tree, ends(tree))

    def test_costs_of_thirty_figures(self):
        costs = large_costs(30)
        wholes = [(figures(30, seed) * (-1) ** seed, 1) for seed in range(3, 124)]
        for told in (costs, wholes):
            for tree in (even_tree(60, iter(told)), deep_tree(iter(told)), deep_tree(iter(told), "n")):
                self.check_all(tree, ends(tree))

    def test_costs_of_three_thousand_figures(self):
        tree = deep_tree(iter(large_costs(3000)))
        for place in ("", "y" * 10, "y" * 19):
            self.check(tree, ends(tree), place)

    def test_no_fork_inside(self):
        wrong = {
            "": ("", "n", "y", "ny", "nn"),
            "n y": ("n", "y", "ny", "nn", "nyy", "yy"),
            "nn ny y": ("nn", "ny", "y", "nyn", "nyy", "nny", "yn"),
            "nn nyn nyy y": ("nn", "nyn", "nyy", "y", "nnn", "nyny", "yy"),
        }
        for row, places_asked in wrong.items():
            places = row.split(" ")
            for place in places_asked + NO_FORKS:
                with self.subTest(places=places, place=place):
                    with self.assertRaises(NoPlace) as caught:
                        link(SMALL, places, place)
                    self.assertEqual(caught.exception.place, place)

    def test_all_that_is_not_inside(self):
        for shape in shapes(3):
            tree = with_costs(shape, counted_up())
            known = forks(tree) + ends(tree)
            for places in all_prunings(tree):
                told = inside(tree, places)
                for place in known + [one + "n" for one in ends(tree)] + ["x"]:
                    if place in told:
                        self.check(tree, places, place)
                    else:
                        with self.assertRaises(NoPlace) as caught:
                            link(tree, places, place)
                        self.assertEqual(caught.exception.place, place)

    def test_single_end(self):
        for place in ("", "y", "n", "x"):
            with self.assertRaises(NoPlace) as caught:
                link(end(7), [""], place)
            self.assertEqual(caught.exception.place, place)

    def test_no_pruning_ahead_of_no_place(self):
        for places in NO_PRUNINGS:
            for place in ("", "n", "ny", "nn", "y", "nyyy") + NO_FORKS:
                with self.assertRaises(NoPruning):
                    link(SMALL, places, place)


class Cut(unittest.TestCase):
    def test_no_forks(self):
        for places in SMALL_PRUNINGS:
            told = cut(places, [])
            self.assertEqual(told, places)
            self.assertIsNot(told, places)

    def test_one_fork(self):
        places = ["nn", "nyn", "nyy", "y"]
        self.assertEqual(cut(places, ["ny"]), ["nn", "ny", "y"])
        self.assertEqual(cut(places, ["n"]), ["n", "y"])
        self.assertEqual(cut(places, [""]), [""])
        self.assertEqual(cut(["n", "y"], [""]), [""])

    def test_forks_beside_one_another(self):
        places = ["nn", "ny", "ynn", "yny", "yy"]
        for some in (["n", "yn"], ["yn", "n"]):
            self.assertEqual(cut(places, some), ["n", "yn", "yy"])
        for some in (["n", "y"], ["y", "n"]):
            self.assertEqual(cut(places, some), ["n", "y"])

    def test_forks_one_beneath_another(self):
        places = ["nn", "nyn", "nyy", "y"]
        for some in (["n", "ny"], ["ny", "n"]):
            self.assertEqual(cut(places, some), ["n", "y"])
        for some in itertools.permutations(["", "n", "ny"]):
            self.assertEqual(cut(places, list(some)), [""])

    def test_some_forks_in_any_order(self):
        for tree in small_trees()[::3]:
            for places in all_prunings(tree)[:8]:
                within = inside(tree, places)
                for size in range(min(len(within), 3) + 1):
                    for some in itertools.permutations(within, size):
                        told = cut(places, list(some))
                        self.assertEqual(told, cut_by_hand(places, some))
                        self.assertTrue(is_pruning(tree, told))

    def test_all_forks_inside(self):
        for tree in small_trees() + large_trees():
            for places in (ends(tree), [""], cheapest(tree, (1, 1))):
                self.assertEqual(cut(places, inside(tree, places)), [""])
                self.assertEqual(cut(places, inside(tree, places)[::-1]), [""])

    def test_large_trees(self):
        for tree in large_trees():
            places = ends(tree)
            within = inside(tree, places)
            for step in (2, 3, 7, 20):
                for some in (within[step::step], within[::-step][:-1]):
                    told = cut(places, some)
                    self.assertEqual(told, cut_by_hand(places, some))
                    self.assertTrue(is_pruning(tree, told))

    def test_what_is_handed_in_stays_and_the_list_told_is_new(self):
        places = ["nn", "nyn", "nyy", "y"]
        for some in ([], ["ny"], ["n"], ["ny", "n"], ["n", "", "ny"]):
            before = list(some)
            told = cut(places, some)
            want = list(told)
            self.assertIs(type(told), list)
            told.append("spoiled")
            told[0] = "spoiled"
            self.assertEqual((places, some), (["nn", "nyn", "nyy", "y"], before))
            self.assertEqual(cut(places, some), want)


class Together(unittest.TestCase):
    def test_at_its_link_cutting_comes_to_the_same(self):
        for tree in small_trees():
            for places in all_prunings(tree)[:10]:
                for place in inside(tree, places):
                    price = link(tree, places, place)
                    less = cut(places, [place])
                    self.assertEqual(total_by_hand(tree, places, price), total_by_hand(tree, less, price))


if __name__ == "__main__":
    unittest.main()
