"""Trees made by hand: points [2], [13], [14] and the interface, prunepath/nodes.py."""

import itertools
import unittest

from prunepath.errors import NoPlace
from prunepath.nodes import Fork, Leaf, Node

MOST = ("most", 0, 5)
LARGE = 10 ** 30 - 1
OTHER_SIGNS = [chr(code) for code in range(ord(" "), ord("~") + 1) if chr(code) not in "yn"]


def leaf(answer="a"):
    return Leaf([(answer, 1)])


def small_tree():
    # "y" and "nn" are leaves of their own; "ny" forks once more.
    inner = Fork([("b", 2)], ("is", 1, "red"), leaf("c"), leaf("d"))
    lower = Fork([("b", 3)], ("most", 0, 9), inner, leaf("e"))
    return Fork([("a", 1), ("b", 3)], MOST, leaf("a"), lower)


def chain(long, sign):
    node = leaf("end")
    for step in range(long):
        cut = ("most", 0, step)
        if sign == "y":
            node = Fork([("a", step + 1)], cut, node, leaf("side"))
        else:
            node = Fork([("a", step + 1)], cut, leaf("side"), node)
    return node


def doubled(deep):
    # One tree stands on both sides of each fork.
    node = leaf()
    for step in range(deep):
        node = Fork([("a", 1)], ("most", step, 0), node, node)
    return node


class Making(unittest.TestCase):
    def test_classes(self):
        self.assertEqual(Leaf.__bases__, (Node,))
        self.assertEqual(Fork.__bases__, (Node,))
        self.assertIsInstance(leaf(), Node)
        self.assertIsInstance(small_tree(), Node)
        self.assertNotIsInstance(leaf(), Fork)
        self.assertNotIsInstance(small_tree(), Leaf)

    def test_fields_of_a_leaf(self):
        for counted in ([], [("a", 1)], [("a", 3), ("b", LARGE)]):
            self.assertEqual(Leaf(counted).counted, counted)
            self.assertIs(type(Leaf(counted).counted), list)

    def test_fields_of_a_fork(self):
        yes = leaf("b")
        no = leaf("c")
        for question in (MOST, ("is", 5, "red"), ("most", 2, -LARGE)):
            node = Fork([("a", 7)], question, yes, no)
            self.assertEqual(node.counted, [("a", 7)])
            self.assertEqual(node.question, question)
            self.assertIs(type(node.question), tuple)
            self.assertIs(node.yes, yes)
            self.assertIs(node.no, no)

    def test_fork_without_counts(self):
        self.assertEqual(Fork([], MOST, leaf(), leaf()).counted, [])

    def test_any_counts_at_any_place(self):
        node = Fork([("x", 1)], MOST, Leaf([("y", 50)]), Leaf([]))
        self.assertEqual((node.counted, node.yes.counted, node.no.counted), ([("x", 1)], [("y", 50)], []))

    def test_counts_handed_in_stay_and_may_be_changed(self):
        counted = [("a", 1), ("b", 2)]
        one = Leaf(counted)
        other = Fork(counted, MOST, leaf(), leaf())
        base = Node(counted)
        self.assertEqual(counted, [("a", 1), ("b", 2)])
        counted[0] = ("z", 9)
        counted.append(("y", 8))
        for node in (one, other, base):
            self.assertEqual(node.counted, [("a", 1), ("b", 2)])

    def test_each_node_has_a_list_of_its_own(self):
        counted = [("a", 1)]
        nodes = [Leaf(counted), Leaf(counted), Fork(counted, MOST, leaf(), leaf()), Node(counted)]
        for one, other in itertools.combinations(nodes, 2):
            self.assertIsNot(one.counted, other.counted)
        for node in nodes:
            self.assertIsNot(node.counted, counted)


class Shape(unittest.TestCase):
    def check(self, node, leaves, deep, places):
        self.assertEqual((node.leaves(), node.deep()), (leaves, deep))
        self.assertEqual((type(node.leaves()), type(node.deep())), (int, int))
        told = node.places()
        self.assertIs(type(told), list)
        self.assertEqual(told, places)

    def test_leaf(self):
        self.check(leaf(), 1, 0, [""])
        self.check(Leaf([]), 1, 0, [""])

    def test_one_fork(self):
        self.check(Fork([], MOST, leaf(), leaf()), 2, 1, ["n", "y"])

    def test_small_tree_and_the_trees_in_it(self):
        node = small_tree()
        self.check(node, 4, 3, ["nn", "nyn", "nyy", "y"])
        self.check(node.no, 3, 2, ["n", "yn", "yy"])
        self.check(node.no.yes, 2, 1, ["n", "y"])
        self.check(node.yes, 1, 0, [""])

    def test_deeper_one_of_both(self):
        for one, other in itertools.product(range(4), repeat=2):
            node = Fork([], MOST, chain(one, "y"), chain(other, "n"))
            self.assertEqual(node.deep(), 1 + max(one, other))
            self.assertEqual(node.leaves(), one + other + 2)

    def test_chains_of_twenty_forks(self):
        self.check(chain(20, "y"), 21, 20, sorted(["y" * 20] + ["y" * step + "n" for step in range(20)]))
        self.check(chain(20, "n"), 21, 20, sorted(["n" * 20] + ["n" * step + "y" for step in range(20)]))

    def test_one_tree_at_several_places(self):
        for deep in range(8):
            places = sorted("".join(signs) for signs in itertools.product("yn", repeat=deep))
            self.check(doubled(deep), 2 ** deep, deep, places)

    def test_one_tree_at_places_of_unlike_depth(self):
        shared = small_tree()
        node = Fork([], MOST, shared, Fork([], MOST, shared, leaf()))
        below = ["nn", "nyn", "nyy", "y"]
        self.check(node, 9, 5, sorted(["y" + one for one in below] + ["ny" + one for one in below] + ["nn"]))
        self.check(shared, 4, 3, below)

    def test_one_tree_on_both_sides_of_twenty_forks(self):
        node = doubled(20)
        self.assertEqual((node.leaves(), node.deep()), (2 ** 20, 20))
        self.assertEqual(node.place_of(tuple([0, 1] * 10)), "ny" * 10)

    def test_places_told_are_the_askers_own(self):
        for node in (leaf(), small_tree(), chain(20, "y")):
            want = list(node.places())
            told = node.places()
            told.append("spoiled")
            told[0] = "spoiled"
            self.assertEqual(node.places(), want)
            self.assertEqual(node.leaves(), len(want))


class Falling(unittest.TestCase):
    def test_leaf(self):
        self.assertEqual(leaf().place_of((1, "red")), "")

    def test_small_tree_and_the_trees_in_it(self):
        node = small_tree()
        falls = (((5, "red"), "y"), ((6, "red"), "nyy"), ((9, "blue"), "nyn"), ((10, "red"), "nn"), ((-3, "x"), "y"))
        for values, place in falls:
            self.assertEqual(node.place_of(values), place)
            self.assertIn(place, node.places())
        self.assertEqual(node.no.place_of((5, "red")), "yy")
        self.assertEqual(node.no.place_of((10, "red")), "n")
        self.assertEqual(node.no.yes.place_of((10, "red")), "y")
        self.assertEqual(node.yes.place_of((10, "red")), "")

    def test_chains_of_twenty_forks(self):
        # At the top stands the cut 19, at the bottom the cut 0.
        for value in range(-1, 22):
            signs = "".join("y" if value <= cut else "n" for cut in range(19, -1, -1))
            first_no = (signs + "n").index("n")
            self.assertEqual(chain(20, "y").place_of((value,)), signs[:first_no + 1])
            first_yes = (signs + "y").index("y")
            self.assertEqual(chain(20, "n").place_of((value,)), signs[:first_yes + 1])

    def test_one_tree_at_several_places(self):
        node = doubled(6)
        for values in itertools.product((0, 1), repeat=6):
            # The fork at the top asks the last column.
            self.assertEqual(node.place_of(values), "".join("yn"[value] for value in reversed(values)))

    def test_numbers_of_thirty_figures(self):
        node = Fork([], ("most", 0, LARGE - 1), leaf(), Fork([], ("most", 1, -LARGE), leaf(), leaf()))
        self.assertEqual(node.place_of((LARGE - 1, 0)), "y")
        self.assertEqual(node.place_of((LARGE, -LARGE)), "ny")
        self.assertEqual(node.place_of((LARGE, 1 - LARGE)), "nn")


class Places(unittest.TestCase):
    def check_refused(self, node, place):
        with self.assertRaises(NoPlace) as caught:
            node.at(place)
        self.assertEqual(caught.exception.place, place)

    def test_whole_tree(self):
        for node in (leaf(), small_tree(), chain(20, "n"), doubled(20)):
            self.assertIs(node.at(""), node)

    def test_small_tree_and_the_trees_in_it(self):
        node = small_tree()
        self.assertIs(node.at("y"), node.yes)
        self.assertIs(node.at("n"), node.no)
        self.assertIs(node.at("nn"), node.no.no)
        self.assertIs(node.at("ny"), node.no.yes)
        self.assertIs(node.at("nyy"), node.no.yes.yes)
        self.assertIs(node.at("nyn"), node.no.yes.no)
        self.assertIs(node.no.at("yn"), node.at("nyn"))
        self.assertIs(node.no.yes.at("n"), node.at("nyn"))

    def test_every_leaf_is_at_its_place(self):
        for node in (small_tree(), chain(20, "y"), chain(20, "n"), doubled(6)):
            for place in node.places():
                self.assertIsInstance(node.at(place), Leaf)
                self.assertIsInstance(node.at(place[:-1]), Fork)

    def test_every_place_of_chains_of_twenty_forks(self):
        for sign, other in ("yn", "ny"):
            node = chain(20, sign)
            for step in range(20):
                self.assertEqual(node.at(sign * step).counted, [("a", 20 - step)])
                self.assertEqual(node.at(sign * step + other).counted, [("side", 1)])
            self.assertEqual(node.at(sign * 20).counted, [("end", 1)])

    def test_one_tree_at_several_places(self):
        node = doubled(20)
        for place in ("", "y", "n", "yn" * 5, "ny" * 9, "y" * 20, "nnnnyyyyynnnnnyyyyyn"):
            self.assertEqual(node.at(place).deep(), 20 - len(place))
        self.assertIs(node.at("yyn"), node.at("nny"))
        self.check_refused(node, "yn" * 10 + "y")

    def test_below_a_leaf(self):
        for place in ("y", "n", "yy", "nyyn", "y" * 40):
            self.check_refused(leaf(), place)
            self.check_refused(small_tree().yes, place)
        for place in ("yy", "yn", "nnn", "nny", "nyyy", "nynn", "y" * 40, "n" * 40, "yn" * 20):
            self.check_refused(small_tree(), place)

    def test_too_long(self):
        for sign in "yn":
            self.check_refused(chain(20, sign), sign * 21)
            self.check_refused(chain(20, sign), sign * 40)
            self.check_refused(chain(20, sign), sign * 20 + "x")

    def test_other_signs(self):
        for sign in OTHER_SIGNS:
            for node in (leaf(), small_tree()):
                for place in (sign, sign + "y", "y" + sign, "n" + sign, "n" + sign + "y", "nyy" + sign, sign * 40):
                    self.check_refused(node, place)

    def test_from_the_trees_within(self):
        node = small_tree()
        self.check_refused(node.no, "nyy")
        self.check_refused(node.no, "nn")
        self.check_refused(node.no.yes, "ny")
        self.check_refused(node.at("ny"), "yn")
        self.check_refused(node.at("nyy"), "nyy")
        self.check_refused(node.yes, "y")

    def test_refusals_change_nothing(self):
        node = small_tree()
        self.check_refused(node, "yx")
        self.assertEqual(node.places(), ["nn", "nyn", "nyy", "y"])
        self.assertEqual((node.leaves(), node.deep()), (4, 3))
        self.assertIs(node.at("n"), node.no)


if __name__ == "__main__":
    unittest.main()
