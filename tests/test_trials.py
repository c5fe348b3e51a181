"""Trials and what is chosen: points [2], [8], [26], [27] and the interface, prunepath/trials.py."""

import itertools
import unittest

from prunepath.costs import costed
from prunepath.errors import NoMeasure, NoPruning
from prunepath.grow import grow
from prunepath.nodes import Fork, Leaf
from prunepath.paths import path
from prunepath.trials import answer, chosen, trial
from samples import (
    ANSWERS, COLUMNS, MEASURES, NO_MEASURES, NO_PRUNINGS, SMALL_PRUNINGS, all_prunings, path_by_hand, some_group,
)

# Of the form of the small costed tree: forks at "", "n" and "ny".
TREE = Fork(
    [("no", 5), ("yes", 5)], ("most", 0, 3),
    Leaf([("yes", 4)]),
    Fork(
        [("maybe", 2), ("no", 5), ("yes", 1)], ("is", 1, "red"),
        Fork([("maybe", 2), ("yes", 2)], ("most", 0, 7), Leaf([("yes", 2)]), Leaf([])),
        Leaf([("no", 5)]),
    ),
)
AT_YES = (3, "blue")
AT_NYY = (7, "red")
AT_NYN = (8, "red")
AT_NN = (8, "blue")


def answer_by_hand(node, places, values):
    # Down the tree, until a place of the pruning is come to.
    place = ""
    while place not in places:
        if node.question[0] == "most":
            says = values[node.question[1]] <= node.question[2]
        else:
            says = values[node.question[1]] == node.question[2]
        node = node.yes if says else node.no
        place += "y" if says else "n"
    counted = sorted(node.counted, key=lambda one: (-one[1], one[0]))
    return counted[0][0] if counted else None


def trial_by_hand(node, measure, group):
    told = []
    for price, places in path_by_hand(costed(node, measure)):
        missed = [row for row in group if answer_by_hand(node, places, row[0]) != row[1]]
        told.append((price, len(places), len(missed)))
    return told


def as_tree(node):
    # The tree's form and all that it holds, to be held against later.
    if isinstance(node, Fork):
        return (list(node.counted), node.question, as_tree(node.yes), as_tree(node.no))
    return list(node.counted)


class Answer(unittest.TestCase):
    def test_all_ends(self):
        places = ["nn", "nyn", "nyy", "y"]
        self.assertEqual(answer(TREE, places, AT_YES), "yes")
        self.assertEqual(answer(TREE, places, AT_NN), "no")
        self.assertEqual(answer(TREE, places, AT_NYY), "yes")
        self.assertIsNone(answer(TREE, places, AT_NYN))

    def test_mixed_prunings(self):
        for values in (AT_NYY, AT_NYN):
            # As many of the one as of the other: the first one.
            self.assertEqual(answer(TREE, ["nn", "ny", "y"], values), "maybe")
            self.assertEqual(answer(TREE, ["n", "y"], values), "no")
        self.assertEqual(answer(TREE, ["nn", "ny", "y"], AT_NN), "no")
        for places in (["n", "y"], ["nn", "ny", "y"]):
            self.assertEqual(answer(TREE, places, AT_YES), "yes")

    def test_whole_tree(self):
        for values in (AT_YES, AT_NYY, AT_NYN, AT_NN):
            self.assertEqual(answer(TREE, [""], values), "no")

    def test_single_leaf(self):
        self.assertEqual(answer(Leaf([("no", 1), ("yes", 2)]), [""], (7,)), "yes")
        self.assertEqual(answer(Leaf([("no", 2), ("yes", 2)]), [""], (7,)), "no")
        self.assertIsNone(answer(Leaf([]), [""], (7,)))

    def test_fork_without_counts(self):
        tree = Fork([], ("most", 0, 3), Leaf([("yes", 1)]), Leaf([]))
        self.assertIsNone(answer(tree, [""], (1,)))
        self.assertEqual(answer(tree, ["n", "y"], (3,)), "yes")
        self.assertIsNone(answer(tree, ["n", "y"], (4,)))

    def test_one_tree_at_several_places(self):
        part = Fork([("a", 1), ("b", 2)], ("most", 1, 0), Leaf([("a", 1)]), Leaf([("b", 2)]))
        tree = Fork([("c", 1)], ("most", 0, 0), part, part)
        for first, second in itertools.product((0, 1), repeat=2):
            self.assertEqual(answer(tree, ["nn", "ny", "yn", "yy"], (first, second)), "ab"[second])
            self.assertEqual(answer(tree, ["n", "yn", "yy"], (first, second)), "b" if first else "ab"[second])
            self.assertEqual(answer(tree, [""], (first, second)), "c")

    def test_no_pruning(self):
        for places in NO_PRUNINGS:
            with self.subTest(places=places):
                before = list(places)
                for values in (AT_YES, AT_NYN):
                    with self.assertRaises(NoPruning):
                        answer(TREE, places, values)
                self.assertEqual(places, before)
        for places in ([], ["y"], ["n", "y"], ["", ""], ["x"]):
            with self.assertRaises(NoPruning):
                answer(Leaf([("no", 1)]), places, AT_YES)

    def test_grown_trees(self):
        for seed, measure in itertools.product(range(4), MEASURES):
            node = grow(COLUMNS, some_group(seed, 9), measure, deepest=4)
            for places in all_prunings(costed(node, measure)):
                for values, wanted in some_group(seed + 100, 12):
                    self.assertEqual(answer(node, places, values), answer_by_hand(node, places, values))

    def test_tree_twenty_deep(self):
        tree = Leaf([("end", 1)])
        for step in range(20):
            name = ANSWERS[step % 3]
            tree = Fork([(name, 2)], ("most", 0, 20 - step), Leaf([(name, 1)]), tree)
        places = sorted(["n" * step + "y" for step in range(20)] + ["n" * 20])
        for number in (-5, 1, 2, 10, 19, 20, 21):
            for some in (places, sorted(places[-7:] + ["n" * 7]), [""]):
                self.assertEqual(answer(tree, some, (number,)), answer_by_hand(tree, some, (number,)))

    def test_what_is_handed_in_stays(self):
        before = as_tree(TREE)
        places = ["nn", "ny", "y"]
        answer(TREE, places, AT_NN)
        self.assertEqual(places, ["nn", "ny", "y"])
        self.assertEqual(as_tree(TREE), before)


class Trial(unittest.TestCase):
    def test_by_hand(self):
        group = [(AT_YES, "yes"), (AT_YES, "no"), (AT_NN, "no"), (AT_NYN, "maybe"), (AT_NYY, "yes"), (AT_NYN, "yes")]
        node = Fork(
            [("no", 4), ("yes", 3)], ("most", 0, 3),
            Leaf([("yes", 2)]),
            Fork([("no", 4), ("yes", 1)], ("is", 1, "red"), Leaf([("yes", 1)]), Leaf([("no", 4)])),
        )
        # By misses the forks cost 3 and 1, the leaves nothing: the inner one is cut at 1, the outer one at 2.
        self.assertEqual(trial(node, "misses", group), [((0, 1), 3, 2), ((1, 1), 2, 4), ((2, 1), 1, 4)])
        # By shares they cost 24/7 and 8/5.
        self.assertEqual(trial(node, "shares", group), [((0, 1), 3, 2), ((8, 5), 2, 4), ((64, 35), 1, 4)])

    def test_no_rows(self):
        for measure in MEASURES:
            told = trial(TREE, measure, [])
            self.assertEqual(told, [(price, len(places), 0) for price, places in path(costed(TREE, measure))])

    def test_single_leaf(self):
        group = [((1,), "yes"), ((2,), "no"), ((3,), "no")]
        for measure in MEASURES:
            self.assertEqual(trial(Leaf([("no", 1)]), measure, group), [((0, 1), 1, 1)])
            self.assertEqual(trial(Leaf([("other", 1)]), measure, group), [((0, 1), 1, 3)])
            # Where there is no answer every row is missed.
            self.assertEqual(trial(Leaf([]), measure, group), [((0, 1), 1, 3)])
            self.assertEqual(trial(Leaf([]), measure, []), [((0, 1), 1, 0)])

    def test_rows_that_come_twice(self):
        for measure in MEASURES:
            once = trial(TREE, measure, [(AT_NYN, "no"), (AT_YES, "no")])
            twice = trial(TREE, measure, [(AT_NYN, "no"), (AT_YES, "no")] * 2)
            self.assertEqual(twice, [(price, leaves, 2 * misses) for price, leaves, misses in once])

    def test_grown_trees_on_their_own_rows_and_on_others(self):
        for seed, measure in itertools.product(range(5), MEASURES):
            for many in (5, 20, 60):
                rows = some_group(seed, many)
                node = grow(COLUMNS, rows, measure)
                for group in (rows, some_group(seed + 100, 60), some_group(seed + 200, 1)):
                    self.assertEqual(trial(node, measure, group), trial_by_hand(node, measure, group))

    def test_by_another_measure_than_grown_with(self):
        for seed in range(3):
            node = grow(COLUMNS, some_group(seed, 30), "shares")
            group = some_group(seed + 50, 30)
            self.assertEqual(trial(node, "misses", group), trial_by_hand(node, "misses", group))

    def test_no_measure(self):
        for measure in NO_MEASURES:
            for node in (Leaf([]), Leaf([("no", 1)]), TREE):
                for group in ([], [(AT_NN, "no")]):
                    with self.assertRaises(NoMeasure):
                        trial(node, measure, group)

    def test_no_measure_ahead_of_all_else(self):
        # These values can't be asked of this tree; the measure is looked at first.
        for measure in NO_MEASURES:
            with self.assertRaises(NoMeasure):
                trial(TREE, measure, [((), "no")])

    def test_what_is_handed_in_stays(self):
        before = as_tree(TREE)
        group = [(AT_NYN, "no"), (AT_YES, "no")]
        for measure in MEASURES:
            told = trial(TREE, measure, group)
            want = list(told)
            self.assertIs(type(told), list)
            told[0] = "spoiled"
            told.append("spoiled")
            self.assertEqual(trial(TREE, measure, group), want)
        self.assertEqual(group, [(AT_NYN, "no"), (AT_YES, "no")])
        self.assertEqual(as_tree(TREE), before)

    def test_group_changed_behind_the_call(self):
        group = [(AT_NYN, "no"), (AT_YES, "no")]
        told = trial(TREE, "misses", group)
        want = list(told)
        group.clear()
        self.assertEqual(told, want)


class Chosen(unittest.TestCase):
    def test_single_tuple(self):
        self.assertEqual(chosen([((0, 1), 1, 0)]), ((0, 1), None, 1, 0))
        self.assertEqual(chosen([((0, 1), 9, 7)]), ((0, 1), None, 9, 7))

    def test_fewest_misses(self):
        tried = [((0, 1), 7, 3), ((1, 3), 5, 2), ((1, 2), 3, 4), ((5, 2), 1, 9)]
        self.assertEqual(chosen(tried), ((1, 3), (1, 2), 5, 2))
        tried = [((0, 1), 7, 1), ((1, 3), 5, 2), ((1, 2), 3, 4), ((5, 2), 1, 9)]
        self.assertEqual(chosen(tried), ((0, 1), (1, 3), 7, 1))

    def test_last_one(self):
        tried = [((0, 1), 7, 3), ((1, 3), 5, 2), ((5, 2), 1, 1)]
        self.assertEqual(chosen(tried), ((5, 2), None, 1, 1))

    def test_of_several_the_one_with_the_fewest_leaves(self):
        tried = [((0, 1), 7, 2), ((1, 3), 5, 3), ((1, 2), 3, 2), ((5, 2), 1, 9)]
        self.assertEqual(chosen(tried), ((1, 2), (5, 2), 3, 2))
        tried = [((0, 1), 7, 2), ((1, 3), 5, 2), ((1, 2), 3, 2), ((5, 2), 1, 2)]
        self.assertEqual(chosen(tried), ((5, 2), None, 1, 2))
        tried = [((0, 1), 7, 0), ((1, 3), 5, 0), ((1, 2), 3, 1)]
        self.assertEqual(chosen(tried), ((1, 3), (1, 2), 5, 0))

    def test_every_row_of_misses(self):
        prices = [(0, 1), (1, 3), (1, 2), (7, 1)]
        for many in range(1, 5):
            for misses in itertools.product(range(3), repeat=many):
                tried = [(prices[number], 9 - number, missed) for number, missed in enumerate(misses)]
                before = list(tried)
                best = min(tried, key=lambda step: (step[2], step[1]))
                later = [step[0] for step in tried if step[1] < best[1]]
                self.assertEqual(chosen(tried), (best[0], later[0] if later else None, best[1], best[2]))
                self.assertEqual(tried, before)
                self.assertIs(type(chosen(tried)), tuple)

    def test_of_large_numbers(self):
        large = 10 ** 30 - 1
        tried = [((0, 1), large, large), ((1, 10 ** 2999), large - 1, large - 1), ((10 ** 2999, 1), 1, large)]
        self.assertTrue(chosen(tried) == ((1, 10 ** 2999), (10 ** 2999, 1), large - 1, large - 1))


class Together(unittest.TestCase):
    def test_pruned_as_small_tree(self):
        tree = costed(TREE, "misses")
        self.assertEqual(sorted(all_prunings(tree), key=len), list(SMALL_PRUNINGS))


if __name__ == "__main__":
    unittest.main()
