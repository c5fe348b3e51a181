"""Groups and their mess: points [2], [7], [8], [9] and the interface, prunepath/groups.py."""

import itertools
import unittest
from fractions import Fraction

from prunepath.errors import NoMeasure
from prunepath.groups import commonest, counts, mess, misses
from samples import MEASURES, NO_MEASURES, as_ratio, fraction, mess_by_hand, some_groups

LARGE = 10 ** 30 - 1
HAND_MADE = (
    [], [("a", 1)], [("a", 7)], [("a", 2), ("b", 3)], [("a", 3), ("b", 3)], [("a", 1), ("b", 4), ("c", 4)],
    [("no", 10 ** 29), ("yes", LARGE)], [("a", LARGE), ("b", LARGE), ("c", 1)],
)


def rows_of(answers):
    return [((number,), answer) for number, answer in enumerate(answers)]


class Counts(unittest.TestCase):
    def test_no_rows(self):
        self.assertEqual(counts([]), [])

    def test_one_row(self):
        self.assertEqual(counts([((1, "red"), "yes")]), [("yes", 1)])

    def test_sorted_by_the_answers_each_once(self):
        self.assertEqual(counts(rows_of(["b", "c", "a", "b"])), [("a", 1), ("b", 2), ("c", 1)])
        self.assertEqual(counts(rows_of(["yes", "no", "yes"])), [("no", 1), ("yes", 2)])
        self.assertEqual(counts(rows_of(["ab", "b", "a", "aa"])), [("a", 1), ("aa", 1), ("ab", 1), ("b", 1)])

    def test_not_sorted_by_the_numbers(self):
        self.assertEqual(counts(rows_of(["z", "z", "z", "y", "y", "x"])), [("x", 1), ("y", 2), ("z", 3)])

    def test_sixty_rows(self):
        answers = [("yes", "no", "perhaps")[number % 3] for number in range(60)]
        self.assertEqual(counts(rows_of(answers)), [("no", 20), ("perhaps", 20), ("yes", 20)])
        self.assertEqual(counts(rows_of(["yes"] * 60)), [("yes", 60)])

    def test_sixty_answers(self):
        answers = ["a" * (1 + number % 12) + "bcdef"[number // 12] for number in range(60)]
        self.assertEqual(counts(rows_of(answers)), [(answer, 1) for answer in sorted(answers)])

    def test_rows_alike_are_counted_each(self):
        self.assertEqual(counts([((1,), "yes")] * 5), [("yes", 5)])

    def test_kinds_told(self):
        told = counts(rows_of(["yes", "no"]))
        self.assertIs(type(told), list)
        for one in told:
            self.assertIs(type(one), tuple)
            self.assertEqual([type(part) for part in one], [str, int])

    def test_any_order_of_the_rows_gives_the_same(self):
        for order in itertools.permutations(["a", "b", "b", "c"]):
            self.assertEqual(counts(rows_of(order)), [("a", 1), ("b", 2), ("c", 1)])

    def test_group_stays_and_may_be_changed(self):
        group = rows_of(["yes", "no"])
        told = counts(group)
        self.assertEqual(group, rows_of(["yes", "no"]))
        group.append(((7,), "no"))
        self.assertEqual(told, [("no", 1), ("yes", 1)])

    def test_counts_told_are_the_askers_own(self):
        for group in ([], rows_of(["yes", "no"])):
            first = counts(group)
            first.append(("spoiled", 1))
            first[0] = ("spoiled", 2)
            self.assertNotIn(("spoiled", 1), counts(group))
            self.assertNotIn(("spoiled", 2), counts(group))


class Commonest(unittest.TestCase):
    def test_no_counts(self):
        self.assertIsNone(commonest([]))

    def test_greatest_number(self):
        self.assertEqual(commonest([("a", 1)]), "a")
        self.assertEqual(commonest([("a", 1), ("b", 2)]), "b")
        self.assertEqual(commonest([("a", 2), ("b", 1)]), "a")
        self.assertEqual(commonest([("a", 1), ("b", 3), ("c", 2)]), "b")
        self.assertEqual(commonest([("a", 9), ("b", 10), ("c", 8)]), "b")

    def test_of_several_the_first(self):
        self.assertEqual(commonest([("a", 2), ("b", 2)]), "a")
        self.assertEqual(commonest([("a", 1), ("b", 2), ("c", 2)]), "b")
        self.assertEqual(commonest([("a", 2), ("b", 1), ("c", 2)]), "a")
        self.assertEqual(commonest([("x", 5), ("y", 5), ("z", 5)]), "x")

    def test_numbers_of_thirty_figures(self):
        self.assertEqual(commonest([("a", LARGE - 1), ("b", LARGE)]), "b")
        self.assertEqual(commonest([("a", LARGE), ("b", LARGE), ("c", LARGE - 1)]), "a")


class Misses(unittest.TestCase):
    def check(self, counted, want):
        told = misses(counted)
        self.assertIs(type(told), int)
        self.assertEqual(told, want)

    def test_no_counts(self):
        self.check([], 0)

    def test_one_answer(self):
        self.check([("a", 1)], 0)
        self.check([("a", 60)], 0)
        self.check([("a", LARGE)], 0)

    def test_several_answers(self):
        self.check([("a", 1), ("b", 2)], 1)
        self.check([("a", 3), ("b", 3)], 3)
        self.check([("a", 1), ("b", 5), ("c", 2)], 3)
        self.check([("a", 4), ("b", 4), ("c", 4)], 8)

    def test_numbers_of_thirty_figures(self):
        self.check([("a", LARGE), ("b", LARGE - 1)], LARGE - 1)
        self.check([("a", 10 ** 29), ("b", LARGE), ("c", 10 ** 29 + 1)], 2 * 10 ** 29 + 1)
        self.check([("a", LARGE), ("b", LARGE), ("c", LARGE)], 2 * LARGE)


class Mess(unittest.TestCase):
    def check(self, counted, measure, want):
        told = mess(counted, measure)
        self.assertIs(type(told), tuple)
        self.assertEqual([type(part) for part in told], [int, int])
        self.assertEqual(told, want)

    def test_no_counts(self):
        self.check([], "misses", (0, 1))
        self.check([], "shares", (0, 1))

    def test_one_answer(self):
        for many in (1, 2, 60, LARGE):
            self.check([("a", many)], "misses", (0, 1))
            self.check([("a", many)], "shares", (0, 1))

    def test_by_misses(self):
        self.check([("a", 1), ("b", 2)], "misses", (1, 1))
        self.check([("a", 4), ("b", 4), ("c", 4)], "misses", (8, 1))

    def test_by_shares(self):
        self.check([("a", 1), ("b", 1)], "shares", (1, 1))
        self.check([("a", 1), ("b", 2)], "shares", (4, 3))
        self.check([("a", 2), ("b", 4)], "shares", (8, 3))
        self.check([("a", 1), ("b", 3)], "shares", (3, 2))
        self.check([("a", 4), ("b", 4), ("c", 4)], "shares", (8, 1))
        self.check([("a", 1), ("b", 2), ("c", 4)], "shares", (4, 1))

    def test_numbers_of_thirty_figures(self):
        for counted in HAND_MADE[1:]:
            numbers = [many for answer, many in counted]
            whole = sum(numbers)
            self.check(counted, "misses", (whole - max(numbers), 1))
            self.check(counted, "shares", as_ratio(whole - Fraction(sum(one * one for one in numbers), whole)))

    def test_of_the_counts_of_groups(self):
        for group in some_groups():
            for measure in MEASURES:
                self.check(counts(group), measure, as_ratio(mess_by_hand(group, measure)))

    def test_another_measure_is_refused(self):
        for counted in HAND_MADE:
            for measure in NO_MEASURES:
                with self.subTest(counted=counted, measure=measure):
                    with self.assertRaises(NoMeasure):
                        mess(counted, measure)

    def test_measure_is_refused_ahead_of_all_else(self):
        # These are no counts: without the refusal they would fail in another way.
        with self.assertRaises(NoMeasure):
            mess(None, "gini")


class CountsHandedIn(unittest.TestCase):
    def test_they_stay(self):
        for counted in HAND_MADE:
            before = list(counted)
            commonest(counted)
            misses(counted)
            mess(counted, "misses")
            mess(counted, "shares")
            self.assertEqual(counted, before)


class Parts(unittest.TestCase):
    def check(self, one, other):
        both = {}
        for counted in (one, other):
            for answer, many in counted:
                both[answer] = both.get(answer, 0) + many
        whole = sorted(both.items())
        for measure in MEASURES:
            parts = fraction(mess(one, measure)) + fraction(mess(other, measure))
            self.assertLessEqual(parts, fraction(mess(whole, measure)), (one, other, measure))

    def test_two_parts_come_to_no_more_than_both_together(self):
        numbers = list(itertools.product(range(4), repeat=3))
        parts = [[(answer, many) for answer, many in zip("abc", one) if many] for one in numbers]
        for one in parts:
            for other in parts:
                self.check(one, other)

    def test_numbers_of_thirty_figures(self):
        for one in HAND_MADE:
            for other in HAND_MADE:
                self.check(one, other)


if __name__ == "__main__":
    unittest.main()
