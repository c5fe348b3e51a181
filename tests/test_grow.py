"""Growing: points [2], [8], [13] and the interface, prunepath/grow.py."""

import itertools
import unittest

from prunepath.bests import best
from prunepath.errors import NoMeasure
from prunepath.groups import counts
from prunepath.grow import grow
from prunepath.nodes import Fork, Leaf
from samples import COLUMNS, MEASURES, NO_MEASURES, some_group, some_groups

LARGE = 10 ** 30 - 1
NUMBER = [("a", "number")]


def turns(answers):
    return [((number,), answer) for number, answer in enumerate(answers)]


def by_turns(many):
    return turns(["yes", "no"][number % 2] for number in range(many))


def written(node):
    # All that a tree holds, to hold two trees against one another.
    if isinstance(node, Leaf):
        return ("leaf", node.counted)
    return ("fork", node.counted, node.question, written(node.yes), written(node.no))


def all_nodes(node, place=""):
    told = [(place, node)]
    if isinstance(node, Fork):
        told += all_nodes(node.yes, place + "y") + all_nodes(node.no, place + "n")
    return told


class Growing(unittest.TestCase):
    def check_grown(self, node, columns, group, measure, deepest, least):
        self.assertIn(type(node), (Leaf, Fork))
        for place, part in all_nodes(node):
            fallen = [row for row in group if node.place_of(row[0]).startswith(place)]
            self.assertEqual(part.counted, counts(fallen))
            found = best(columns, fallen, measure, least)
            if isinstance(part, Fork):
                self.assertLess(len(place), deepest)
                self.assertEqual(part.question, found[0])
                self.assertEqual(part.yes.counted, counts([row for row in fallen if self.is_yes(part.question, row)]))
            else:
                self.assertTrue(found is None or len(place) == deepest, (place, found))
        self.assertLessEqual(node.deep(), deepest)

    def is_yes(self, question, row):
        kind, column, wanted = question
        return row[0][column] <= wanted if kind == "most" else row[0][column] == wanted

    def test_by_hand(self):
        group = [((7, "red"), "yes"), ((8, "red"), "no"), ((9, "blue"), "no"), ((9, "red"), "yes")]
        node = grow([("age", "number"), ("colour", "word")], group)
        self.assertEqual(written(node), (
            "fork", [("no", 2), ("yes", 2)], ("most", 0, 7),
            ("leaf", [("yes", 1)]),
            (
                "fork", [("no", 2), ("yes", 1)], ("most", 0, 8), ("leaf", [("no", 1)]),
                (
                    "fork", [("no", 1), ("yes", 1)], ("is", 1, "blue"),
                    ("leaf", [("no", 1)]), ("leaf", [("yes", 1)]),
                ),
            ),
        ))

    def test_no_rows(self):
        for measure, deepest, least in itertools.product(MEASURES, (0, 1, 20), (1, 5)):
            node = grow(COLUMNS, [], measure, deepest, least)
            self.assertIs(type(node), Leaf)
            self.assertEqual(node.counted, [])

    def test_one_row_and_one_answer(self):
        for group in ([((1,), "yes")], turns(["yes"] * 60)):
            for measure in MEASURES:
                node = grow(NUMBER, group, measure)
                self.assertIs(type(node), Leaf)
                self.assertEqual(node.counted, [("yes", len(group))])

    def test_rows_that_no_question_parts(self):
        node = grow(NUMBER, [((1,), "yes"), ((1,), "no")])
        self.assertIs(type(node), Leaf)
        self.assertEqual(node.counted, [("no", 1), ("yes", 1)])

    def test_depth_nought(self):
        for group in some_groups() + [by_turns(60)]:
            columns = COLUMNS[:len(group[0][0])]
            for measure in MEASURES:
                node = grow(columns, group, measure, 0)
                self.assertIs(type(node), Leaf)
                self.assertEqual(node.counted, counts(group))

    def test_each_depth_on_answers_by_turns(self):
        for measure in MEASURES:
            for deepest in range(21):
                node = grow(NUMBER, by_turns(24), measure, deepest)
                self.check_grown(node, NUMBER, by_turns(24), measure, deepest, 1)
                # By misses the second question lowers nothing any more.
                self.assertEqual(node.deep(), deepest if measure == "shares" else min(deepest, 1))

    def test_depth_twenty_on_sixty_rows(self):
        for measure in MEASURES:
            node = grow(NUMBER, by_turns(60), measure, 20)
            self.check_grown(node, NUMBER, by_turns(60), measure, 20, 1)
            self.assertEqual(node.deep(), 20 if measure == "shares" else 1)

    def test_many_groups(self):
        for group in some_groups() + [some_group(seed, 60) for seed in range(3)]:
            for measure, deepest, least in itertools.product(MEASURES, (1, 3, 20), (1, 2, 4)):
                node = grow(COLUMNS, group, measure, deepest, least)
                self.check_grown(node, COLUMNS, group, measure, deepest, least)

    def test_shallower_tree_is_the_top_of_the_deeper_one(self):
        group = some_group(5, 60)
        deeper = grow(COLUMNS, group, "shares", 20)
        for deepest in range(5):
            for place, part in all_nodes(grow(COLUMNS, group, "shares", deepest)):
                self.assertEqual(part.counted, deeper.at(place).counted)
                if isinstance(part, Fork):
                    self.assertEqual(part.question, deeper.at(place).question)

    def test_least(self):
        group = turns("baaaaa")
        self.assertEqual(written(grow(NUMBER, group, "shares", 20, 3)), (
            "fork", [("a", 5), ("b", 1)], ("most", 0, 2), ("leaf", [("a", 2), ("b", 1)]), ("leaf", [("a", 3)]),
        ))
        self.assertEqual(grow(NUMBER, group, "shares", 20, 4).leaves(), 1)
        for least in (1, 2, 3, 7, 30, 31, LARGE):
            node = grow(NUMBER, by_turns(60), "shares", 20, least)
            for place in node.places():
                if place != "":
                    self.assertGreaterEqual(sum(many for answer, many in node.at(place).counted), least)

    def test_numbers_of_thirty_figures(self):
        group = [((LARGE,), "a"), ((LARGE - 1,), "b"), ((-LARGE,), "a")]
        node = grow(NUMBER, group)
        self.assertEqual(written(node), (
            "fork", [("a", 2), ("b", 1)], ("most", 0, -LARGE), ("leaf", [("a", 1)]),
            ("fork", [("a", 1), ("b", 1)], ("most", 0, LARGE - 1), ("leaf", [("b", 1)]), ("leaf", [("a", 1)])),
        ))


class Arguments(unittest.TestCase):
    # By misses this group stays whole, by shares it is parted; least 2 and each depth tell trees of their own.
    group = turns("aaabaabaaa")

    def check(self, told, measure, deepest, least):
        self.assertEqual(written(told), written(grow(NUMBER, self.group, measure, deepest, least)))

    def test_they_tell_unlike_trees(self):
        told = [
            written(grow(NUMBER, self.group, "shares", 20, 1)), written(grow(NUMBER, self.group, "misses", 20, 1)),
            written(grow(NUMBER, self.group, "shares", 1, 1)), written(grow(NUMBER, self.group, "shares", 20, 2)),
        ]
        for one, other in itertools.combinations(told, 2):
            self.assertNotEqual(one, other)

    def test_left_out(self):
        self.check(grow(NUMBER, self.group), "shares", 20, 1)
        self.check(grow(NUMBER, self.group, "misses"), "misses", 20, 1)
        self.check(grow(NUMBER, self.group, "shares", 1), "shares", 1, 1)

    def test_deepest_left_out_is_twenty(self):
        self.assertEqual(grow(NUMBER, by_turns(60)).deep(), 20)
        self.assertEqual(grow(NUMBER, by_turns(60), "shares").deep(), 20)

    def test_by_name(self):
        self.check(grow(NUMBER, self.group, measure="misses"), "misses", 20, 1)
        self.check(grow(NUMBER, self.group, deepest=1), "shares", 1, 1)
        self.check(grow(NUMBER, self.group, least=2), "shares", 20, 2)
        self.check(grow(NUMBER, self.group, least=2, deepest=1), "shares", 1, 2)
        self.check(grow(NUMBER, self.group, "shares", least=2), "shares", 20, 2)
        self.check(grow(columns=NUMBER, group=self.group), "shares", 20, 1)
        self.check(grow(least=3, deepest=2, measure="shares", group=self.group, columns=NUMBER), "shares", 2, 3)

    def test_another_measure_is_refused(self):
        for measure in NO_MEASURES:
            for group, deepest in itertools.product(([], turns("a"), turns("ab"), by_turns(9)), (0, 1, 20)):
                with self.subTest(measure=measure, group=group, deepest=deepest):
                    with self.assertRaises(NoMeasure):
                        grow(NUMBER, group, measure, deepest)
                    with self.assertRaises(NoMeasure):
                        grow(columns=NUMBER, group=group, measure=measure, deepest=deepest, least=99)

    def test_what_is_handed_in_stays_and_may_be_changed(self):
        columns = list(NUMBER)
        group = list(self.group)
        node = grow(columns, group)
        want = written(grow(NUMBER, self.group))
        self.assertEqual((columns, group), (NUMBER, self.group))
        columns[0] = ("a", "word")
        group.clear()
        self.assertEqual(written(node), want)
        self.assertEqual(node.leaves(), len(node.places()))

    def test_two_trees_share_no_list(self):
        one = all_nodes(grow(NUMBER, self.group))
        other = all_nodes(grow(NUMBER, self.group))
        lists = [node.counted for place, node in one + other]
        for first, second in itertools.combinations(lists, 2):
            self.assertIsNot(first, second)


if __name__ == "__main__":
    unittest.main()
