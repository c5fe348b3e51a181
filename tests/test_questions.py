"""Questions: points [2], [10], [11] and the interface, prunepath/questions.py."""

import unittest

from prunepath.questions import parted, questions, says
from samples import COLUMNS, WORDS, some_groups

LARGE = 10 ** 30 - 1
SIX = [(name, "number") for name in "abcdef"]


def numbers_group(numbers):
    return [((number,), "yes") for number in numbers]


class Says(unittest.TestCase):
    def test_cut_that_is_a_value(self):
        self.assertIs(says(("most", 0, 5), (4,)), True)
        self.assertIs(says(("most", 0, 5), (5,)), True)
        self.assertIs(says(("most", 0, 5), (6,)), False)

    def test_either_sign(self):
        self.assertIs(says(("most", 0, -5), (-6,)), True)
        self.assertIs(says(("most", 0, -5), (-5,)), True)
        self.assertIs(says(("most", 0, -5), (-4,)), False)
        self.assertIs(says(("most", 0, -5), (5,)), False)
        self.assertIs(says(("most", 0, 0), (-1,)), True)
        self.assertIs(says(("most", 0, 0), (0,)), True)
        self.assertIs(says(("most", 0, 0), (1,)), False)

    def test_thirty_figures(self):
        self.assertIs(says(("most", 0, LARGE - 1), (LARGE,)), False)
        self.assertIs(says(("most", 0, LARGE), (LARGE,)), True)
        self.assertIs(says(("most", 0, LARGE), (LARGE - 1,)), True)
        self.assertIs(says(("most", 0, -LARGE), (-LARGE,)), True)
        self.assertIs(says(("most", 0, -LARGE), (1 - LARGE,)), False)

    def test_word(self):
        self.assertIs(says(("is", 0, "red"), ("red",)), True)
        self.assertIs(says(("is", 0, "red"), ("blue",)), False)
        self.assertIs(says(("is", 0, "red"), ("reds",)), False)
        self.assertIs(says(("is", 0, "red"), ("re",)), False)
        self.assertIs(says(("is", 0, "b"), ("a",)), False)
        self.assertIs(says(("is", 0, "b"), ("c",)), False)

    def test_column_is_counted_from_nought(self):
        values = (1, "red", 5, "blue", 9, "red")
        self.assertIs(says(("most", 0, 3), values), True)
        self.assertIs(says(("most", 2, 3), values), False)
        self.assertIs(says(("most", 4, 9), values), True)
        self.assertIs(says(("is", 1, "red"), values), True)
        self.assertIs(says(("is", 3, "red"), values), False)
        self.assertIs(says(("is", 5, "red"), values), True)


class Parted(unittest.TestCase):
    def check(self, question, group, yes, no):
        before = list(group)
        told = parted(question, group)
        self.assertIs(type(told), tuple)
        self.assertEqual([type(part) for part in told], [list, list])
        self.assertEqual(told, (yes, no))
        self.assertEqual(group, before)

    def test_no_rows(self):
        self.check(("most", 0, 1), [], [], [])
        self.check(("is", 0, "red"), [], [], [])

    def test_cut_that_is_a_value(self):
        group = numbers_group([3, 1, 4, 1, 5, 9, 2, 6])
        self.check(("most", 0, 4), group, numbers_group([3, 1, 4, 1, 2]), numbers_group([5, 9, 6]))

    def test_cut_between_two_values(self):
        self.check(("most", 0, 3), numbers_group([5, 1, 7, 2]), numbers_group([1, 2]), numbers_group([5, 7]))

    def test_cut_below_the_least_and_above_the_greatest(self):
        group = numbers_group([3, -2, 4])
        self.check(("most", 0, -3), group, [], group)
        self.check(("most", 0, 4), group, group, [])
        self.check(("most", 0, 5), group, group, [])
        self.check(("most", 0, -LARGE), group, [], group)
        self.check(("most", 0, LARGE), group, group, [])

    def test_word_that_is_there_and_that_is_not(self):
        group = [((word,), "yes") for word in ("red", "blue", "red", "green")]
        self.check(("is", 0, "red"), group, [group[0], group[2]], [group[1], group[3]])
        self.check(("is", 0, "blue"), group, [group[1]], [group[0], group[2], group[3]])
        self.check(("is", 0, "black"), group, [], group)
        self.check(("is", 0, "red"), [group[0], group[2]], [group[0], group[2]], [])

    def test_order_of_the_group_stays(self):
        group = [((number % 4, WORDS[number % 3]), "abcdefgh"[number * 5 % 8]) for number in range(60)]
        self.check(
            ("most", 0, 1), group, [row for row in group if row[0][0] <= 1], [row for row in group if row[0][0] > 1],
        )
        self.check(
            ("is", 1, "red"), group,
            [row for row in group if row[0][1] == "red"], [row for row in group if row[0][1] != "red"],
        )

    def test_rows_alike_stay_each(self):
        self.check(("most", 0, 1), numbers_group([1, 1, 2, 2]), numbers_group([1, 1]), numbers_group([2, 2]))

    def test_lists_told_are_the_askers_own(self):
        group = numbers_group([1, 2])
        for cut in (0, 1, 2):
            want = parted(("most", 0, cut), group)
            yes, no = parted(("most", 0, cut), group)
            self.assertIsNot(yes, no)
            yes.append("spoiled")
            no.append("spoiled too")
            self.assertEqual((yes[-1], no[-1]), ("spoiled", "spoiled too"))
            self.assertEqual(group, numbers_group([1, 2]))
            self.assertEqual(parted(("most", 0, cut), group), want)

    def test_group_may_be_changed_behind(self):
        group = numbers_group([1, 2])
        told = [parted(("most", 0, cut), group) for cut in (0, 1, 2)]
        group.clear()
        self.assertEqual(told, [
            ([], numbers_group([1, 2])), (numbers_group([1]), numbers_group([2])), (numbers_group([1, 2]), []),
        ])


class Questions(unittest.TestCase):
    def check_numbers(self, numbers, cuts):
        told = questions([("a", "number")], numbers_group(numbers))
        self.assertEqual(told, [("most", 0, cut) for cut in cuts])

    def check_words(self, words, wanted):
        told = questions([("a", "word")], [((word,), "yes") for word in words])
        self.assertEqual(told, [("is", 0, word) for word in wanted])

    def test_no_rows(self):
        self.check_numbers([], [])
        self.check_words([], [])
        self.assertEqual(questions(COLUMNS, []), [])

    def test_one_row(self):
        self.check_numbers([7], [])
        self.check_words(["red"], [])
        self.assertEqual(questions(COLUMNS, [((1, "red", 2, "blue"), "yes")]), [])

    def test_one_value_alone(self):
        self.check_numbers([7, 7, 7], [])
        self.check_words(["red", "red", "red"], [])

    def test_one_value_alone_in_some_columns(self):
        group = [((1, "red", 2, "blue"), "yes"), ((1, "blue", 2, "blue"), "no"), ((1, "red", 3, "blue"), "no")]
        self.assertEqual(questions(COLUMNS, group), [("is", 1, "blue"), ("is", 1, "red"), ("most", 2, 2)])

    def test_two_values(self):
        self.check_numbers([2, 1], [1])
        self.check_words(["red", "blue"], ["blue", "red"])

    def test_numbers_rise_each_once_without_the_greatest(self):
        self.check_numbers([3, 1, 4, 1, 5, 9, 2, 6, 5, 9], [1, 2, 3, 4, 5, 6])

    def test_numbers_of_either_sign(self):
        self.check_numbers([0, -1, 1, -10, 10, -2, 2], [-10, -2, -1, 0, 1, 2])
        self.check_numbers([-1, -2, -3], [-3, -2])

    def test_numbers_are_sorted_as_numbers(self):
        self.check_numbers([100, 20, 3, -100, -20, -3], [-100, -20, -3, 3, 20])

    def test_numbers_of_thirty_figures(self):
        self.check_numbers([LARGE, -LARGE, LARGE - 1, 1 - LARGE, 0], [-LARGE, 1 - LARGE, 0, LARGE - 1])

    def test_words_are_sorted_each_once(self):
        self.check_words(["red", "blue", "green", "red", "blue"], ["blue", "green", "red"])
        self.check_words(["b", "ab", "a", "aa", "abcdefghijkl"], ["a", "aa", "ab", "abcdefghijkl", "b"])

    def test_columns_in_their_order(self):
        group = [((2, "red", 5, "round"), "yes"), ((1, "blue", 7, "flat"), "no"), ((2, "red", 6, "round"), "no")]
        self.assertEqual(questions(COLUMNS, group), [
            ("most", 0, 1), ("is", 1, "blue"), ("is", 1, "red"), ("most", 2, 5), ("most", 2, 6),
            ("is", 3, "flat"), ("is", 3, "round"),
        ])

    def test_six_columns_and_sixty_rows(self):
        group = [((row, -row, row % 2, row // 30, row % 7, 5), "yes") for row in range(60)]
        want = [("most", 0, cut) for cut in range(59)] + [("most", 1, cut) for cut in range(-59, 0)]
        want += [("most", 2, 0), ("most", 3, 0)] + [("most", 4, cut) for cut in range(6)]
        self.assertEqual(questions(SIX, group), want)

    def test_kinds_told(self):
        told = questions(COLUMNS, [((1, "red", 2, "blue"), "yes"), ((2, "blue", 2, "blue"), "yes")])
        self.assertIs(type(told), list)
        self.assertEqual([type(one) for one in told], [tuple] * 3)

    def test_each_once_and_each_leaves_rows_in_both_parts(self):
        for group in some_groups():
            told = questions(COLUMNS, group)
            self.assertEqual(len(set(told)), len(told))
            for question in told:
                yes, no = parted(question, group)
                self.assertTrue(yes and no, (question, group))

    def test_answers_do_not_matter(self):
        for group in some_groups():
            self.assertEqual(questions(COLUMNS, group), questions(COLUMNS, [(row[0], "same") for row in group]))

    def test_what_is_handed_in_stays_and_may_be_changed(self):
        columns = list(COLUMNS)
        group = [((1, "red", 2, "blue"), "yes"), ((2, "blue", 2, "blue"), "yes")]
        before = list(group)
        told = questions(columns, group)
        want = list(told)
        self.assertEqual((columns, group), (COLUMNS, before))
        columns.clear()
        group.clear()
        self.assertEqual(told, want)

    def test_list_told_is_the_askers_own(self):
        group = [((1, "red", 2, "blue"), "yes"), ((2, "blue", 2, "blue"), "yes")]
        told = questions(COLUMNS, group)
        want = list(told)
        told.clear()
        self.assertEqual(questions(COLUMNS, group), want)


if __name__ == "__main__":
    unittest.main()
