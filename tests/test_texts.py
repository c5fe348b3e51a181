"""Texts: points [28], [30] and the interface, prunepath/texts.py."""

import itertools
import math
import unittest

from prunepath.errors import NoRow
from prunepath.grow import grow
from prunepath.nodes import Fork, Leaf
from prunepath.texts import read_ratio, read_whole, show_place, show_ratio, show_tree
from samples import COLUMNS, MEASURES, figures, some_group

NO_WHOLES = (
    "", " ", "-", "--1", "+1", "+", "-0", "00", "01", "-01", "007", "-007", "000", "1 ", " 1", "1 2", "- 1", "-1 ",
    "1_0", "1_000", "_1", "1_", "1.0", "1.", ".1", ".", "1e3", "0x1", "0b1", "a", "one", "1a", "a1", "1-", "1-2", "-a",
    "1,000", "1:2", "(1)", "~", "12345678901234567890123456789O", "1" * 31, "9" * 31, "-" + "1" * 31, "1" + "0" * 30,
    "1" * 300, "1" * 5000, "0" * 30, "-" + "0" * 30, "1\n", "\n1", "1\t",
)
# Signs that Python itself would take for figures.
OTHER_FIGURES = ("\u0661", "\u00b2", "1\u0662", "\uff11")


class ShowRatio(unittest.TestCase):
    def test_bottom_of_one(self):
        for top in (0, 1, 7, 10, 100, 999, 10 ** 29, 10 ** 30 - 1):
            self.assertEqual(show_ratio((top, 1)), str(top))
            if top > 0:
                self.assertEqual(show_ratio((-top, 1)), "-" + str(top))

    def test_other_bottoms(self):
        self.assertEqual(show_ratio((1, 2)), "1/2")
        self.assertEqual(show_ratio((-1, 2)), "-1/2")
        self.assertEqual(show_ratio((7, 3)), "7/3")
        self.assertEqual(show_ratio((-64, 35)), "-64/35")
        self.assertEqual(show_ratio((1, 10)), "1/10")
        self.assertEqual(show_ratio((10 ** 30 - 1, 10 ** 29)), "9" * 30 + "/1" + "0" * 29)

    def test_numbers_of_every_length(self):
        for many in list(range(1, 70)) + [127, 128, 129, 192, 193, 300]:
            for top in (10 ** (many - 1), 10 ** many - 1, figures(many, 7)):
                self.assertEqual(show_ratio((top, 1)), str(top))
                self.assertEqual(show_ratio((-top, 1)), str(-top))
                self.assertEqual(show_ratio((1, top + 1)), "1/" + str(top + 1))

    def test_three_thousand_figures_and_more(self):
        for many in (3000, 4299, 4300, 4301, 9000):
            top = figures(many // 3, 7)
            written = str(top) + "0" * (many - many // 3)
            large = top * 10 ** (many - many // 3)
            self.assertEqual(show_ratio((large, 1)), written)
            self.assertEqual(show_ratio((-large, 1)), "-" + written)
            self.assertEqual(show_ratio((1, large)), "1/" + written)

    def test_is_read_back(self):
        for top, bottom in itertools.product(range(-30, 31), range(1, 20)):
            if math.gcd(top, bottom) == 1:
                self.assertEqual(read_ratio(show_ratio((top, bottom))), (top, bottom))


class ShowPlace(unittest.TestCase):
    def test_place_without_signs(self):
        self.assertEqual(show_place(""), ".")

    def test_other_places(self):
        for place in ("y", "n", "yn", "ny", "yyy", "n" * 20, "yn" * 10):
            self.assertEqual(show_place(place), place)


class ShowTree(unittest.TestCase):
    def test_leaves(self):
        self.assertEqual(show_tree(Leaf([("no", 1), ("yes", 2)]), COLUMNS), "yes")
        self.assertEqual(show_tree(Leaf([("no", 2), ("yes", 2)]), COLUMNS), "no")
        self.assertEqual(show_tree(Leaf([("no", 1)]), COLUMNS), "no")
        self.assertEqual(show_tree(Leaf([]), COLUMNS), "-")

    def test_forks(self):
        yes = Leaf([("yes", 1)])
        no = Leaf([("no", 1)])
        self.assertEqual(show_tree(Fork([], ("most", 0, 7), yes, no), COLUMNS), "(age<=7 yes no)")
        self.assertEqual(show_tree(Fork([], ("is", 1, "red"), no, yes), COLUMNS), "(colour=red no yes)")
        self.assertEqual(show_tree(Fork([("x", 9)], ("most", 2, 0), Leaf([]), yes), COLUMNS), "(size<=0 - yes)")
        self.assertEqual(show_tree(Fork([], ("is", 3, "blue"), Leaf([]), Leaf([])), COLUMNS), "(shape=blue - -)")

    def test_trees_within(self):
        one = Fork([], ("most", 0, -3), Leaf([("a", 1)]), Leaf([("b", 1)]))
        other = Fork([], ("is", 1, "red"), Leaf([("c", 1)]), one)
        self.assertEqual(show_tree(Fork([], ("most", 2, 5), one, other), COLUMNS),
                         "(size<=5 (age<=-3 a b) (colour=red c (age<=-3 a b)))")

    def test_cuts(self):
        for cut in (0, 1, -1, 9, 10, -10, 10 ** 29, 10 ** 30 - 1, -(10 ** 30 - 1), -(10 ** 29)):
            tree = Fork([], ("most", 0, cut), Leaf([("a", 1)]), Leaf([("b", 1)]))
            self.assertEqual(show_tree(tree, COLUMNS), "(age<=" + str(cut) + " a b)")

    def test_columns_in_any_order(self):
        tree = Fork([], ("most", 1, 7), Leaf([]), Fork([], ("is", 0, "red"), Leaf([]), Leaf([])))
        self.assertEqual(show_tree(tree, [("b", "word"), ("a", "number")]), "(a<=7 - (b=red - -))")
        self.assertEqual(show_tree(tree, [("a", "word"), ("b", "number")]), "(b<=7 - (a=red - -))")
        self.assertEqual(show_tree(tree, [("zz", "word"), ("abcdefghijkl", "number"), ("c", "word")]),
                         "(abcdefghijkl<=7 - (zz=red - -))")

    def test_twenty_deep(self):
        tree = Leaf([("end", 1)])
        want = "end"
        for step in range(20):
            tree = Fork([], ("most", 0, step), Leaf([]), tree)
            want = f"(age<={step} - {want})"
        self.assertEqual(show_tree(tree, COLUMNS), want)

    def test_grown_trees(self):
        def by_hand(node):
            if isinstance(node, Leaf):
                return sorted(node.counted, key=lambda one: (-one[1], one[0]))[0][0]
            name = COLUMNS[node.question[1]][0]
            sign = {"most": "<=", "is": "="}[node.question[0]]
            return "(" + name + sign + str(node.question[2]) + " " + by_hand(node.yes) + " " + by_hand(node.no) + ")"

        for seed, measure in itertools.product(range(5), MEASURES):
            node = grow(COLUMNS, some_group(seed, 40), measure)
            columns = list(COLUMNS)
            self.assertEqual(show_tree(node, columns), by_hand(node))
            self.assertEqual(columns, COLUMNS)


class ReadWhole(unittest.TestCase):
    def test_one_to_thirty_figures(self):
        for many in range(1, 31):
            for number in (10 ** (many - 1), 10 ** many - 1, figures(many, 7)):
                self.assertEqual(read_whole(str(number)), number)
                self.assertEqual(read_whole("-" + str(number)), -number)
        self.assertEqual(read_whole("0"), 0)
        self.assertIs(type(read_whole("7")), int)

    def test_small_numbers(self):
        for number in range(-120, 121):
            self.assertEqual(read_whole(str(number)), number)

    def test_no_wholes(self):
        for text in NO_WHOLES + OTHER_FIGURES + ("1/2", "1/1", "0/1", "/"):
            with self.subTest(text=text[:40]):
                with self.assertRaises(NoRow):
                    read_whole(text)

    def test_every_other_sign(self):
        for sign in map(chr, range(32, 127)):
            if sign not in "0123456789":
                for text in (sign, "1" + sign, "1" + sign + "1"):
                    with self.assertRaises(NoRow):
                        read_whole(text)
                if sign != "-":
                    with self.assertRaises(NoRow):
                        read_whole(sign + "1")


class ReadRatio(unittest.TestCase):
    def test_whole_numbers(self):
        for number in list(range(-30, 31)) + [10 ** 29, 10 ** 30 - 1, -(10 ** 30 - 1)]:
            self.assertEqual(read_ratio(str(number)), (number, 1))

    def test_top_and_bottom(self):
        self.assertEqual(read_ratio("1/2"), (1, 2))
        self.assertEqual(read_ratio("-1/2"), (-1, 2))
        self.assertEqual(read_ratio("-64/35"), (-64, 35))
        nines = "9" * 30
        self.assertEqual(read_ratio(nines + "/1" + "0" * 29), (10 ** 30 - 1, 10 ** 29))
        self.assertEqual(read_ratio("-1/" + nines), (-1, 10 ** 30 - 1))

    def test_all_small_pairs(self):
        for top, bottom in itertools.product(range(-25, 26), range(-3, 26)):
            text = str(top) + "/" + str(bottom)
            if bottom >= 2 and math.gcd(top, bottom) == 1:
                self.assertEqual(read_ratio(text), (top, bottom))
            else:
                with self.assertRaises(NoRow):
                    read_ratio(text)

    def test_no_ratios(self):
        texts = (
            "0/2", "0/1", "0/0", "1/0", "1/1", "-1/1", "7/1", "1/-2", "-1/-2", "2/4", "-2/4", "6/3", "10/5", "1/2/3",
            "1//2", "1/", "/2", "/", "//", "-/2", "1/-", "1/+2", "+1/2", "01/2", "1/02", "1/2 ", " 1/2", "1 /2",
            "1/ 2", "1/2_0", "-0/2", "1/-0", "1.0/2", "a/b", "1/b", "a/2", "1\\2", "1:2",
            "1" * 31 + "/2", "1/" + "1" * 31, "1/3" + "0" * 30,
        )
        for text in texts + NO_WHOLES + OTHER_FIGURES:
            with self.subTest(text=text[:40]):
                with self.assertRaises(NoRow):
                    read_ratio(text)

    def test_a_wrong_number_on_either_side(self):
        for text in NO_WHOLES:
            for wrong in (text + "/7", "1/" + text):
                with self.subTest(text=wrong[:40]):
                    with self.assertRaises(NoRow):
                        read_ratio(wrong)


if __name__ == "__main__":
    unittest.main()
