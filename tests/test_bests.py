"""The drop and the best question: points [2], [8], [12] and the interface, prunepath/bests.py."""

import itertools
import unittest

from prunepath.bests import best, drop
from prunepath.errors import NoMeasure
from prunepath.questions import questions
from samples import COLUMNS, MEASURES, NO_MEASURES, as_ratio, fraction, mess_by_hand, some_group, some_groups

LARGE = 10 ** 30 - 1
NUMBER = [("a", "number")]
WORD = [("a", "word")]


def turns(answers):
    return [((number,), answer) for number, answer in enumerate(answers)]


def yes_rows(question, group):
    kind, column, wanted = question
    if kind == "most":
        return [row for row in group if row[0][column] <= wanted]
    return [row for row in group if row[0][column] == wanted]


def no_rows(question, group):
    kind, column, wanted = question
    if kind == "most":
        return [row for row in group if row[0][column] > wanted]
    return [row for row in group if row[0][column] != wanted]


def drop_by_hand(question, group, measure):
    whole = mess_by_hand(group, measure)
    return whole - mess_by_hand(yes_rows(question, group), measure) - mess_by_hand(no_rows(question, group), measure)


def best_by_hand(columns, group, measure, least):
    dropped = []
    for question in questions(columns, group):
        if len(yes_rows(question, group)) >= least and len(no_rows(question, group)) >= least:
            dropped.append((drop_by_hand(question, group, measure), question))
    greatest = max([one for one, question in dropped], default=0)
    if greatest <= 0:
        return None
    return ([question for one, question in dropped if one == greatest][0], as_ratio(greatest))


class Drop(unittest.TestCase):
    def check(self, question, group, measure, want):
        told = drop(question, group, measure)
        self.assertIs(type(told), tuple)
        self.assertEqual([type(part) for part in told], [int, int])
        self.assertEqual(told, want, (question, group, measure))

    def test_by_hand(self):
        group = turns(["a", "a", "b", "b"])
        self.check(("most", 0, 1), group, "misses", (2, 1))
        self.check(("most", 0, 1), group, "shares", (2, 1))
        self.check(("most", 0, 0), group, "misses", (1, 1))
        self.check(("most", 0, 0), group, "shares", (2, 3))
        self.check(("most", 0, 2), group, "shares", (2, 3))

    def test_words(self):
        group = [(("red",), "a"), (("blue",), "b"), (("red",), "a"), (("green",), "b")]
        self.check(("is", 0, "red"), group, "misses", (2, 1))
        self.check(("is", 0, "blue"), group, "misses", (1, 1))
        self.check(("is", 0, "blue"), group, "shares", (2, 3))

    def test_part_left_empty(self):
        for group in some_groups():
            for measure in MEASURES:
                for question in (("most", 0, -100), ("most", 0, 100), ("is", 1, "black"), ("most", 2, LARGE)):
                    self.check(question, group, measure, (0, 1))

    def test_no_rows(self):
        for measure in MEASURES:
            self.check(("most", 0, 1), [], measure, (0, 1))
            self.check(("is", 1, "red"), [], measure, (0, 1))

    def test_cuts_that_are_no_values(self):
        group = [((number,), answer) for number, answer in ((-5, "a"), (5, "b"), (15, "b"))]
        self.check(("most", 0, 0), group, "misses", (1, 1))
        self.check(("most", 0, 0), group, "shares", (4, 3))
        self.check(("most", 0, 14), group, "shares", (1, 3))

    def test_of_every_question_of_many_groups(self):
        for group in some_groups():
            for question in questions(COLUMNS, group):
                for measure in MEASURES:
                    self.check(question, group, measure, as_ratio(drop_by_hand(question, group, measure)))
                    self.assertGreaterEqual(fraction(drop(question, group, measure)), 0)

    def test_another_measure_is_refused(self):
        for measure in NO_MEASURES:
            for group in ([], turns(["a"]), turns(["a", "b"])):
                for question in (("most", 0, 0), ("most", 0, 7)):
                    with self.subTest(measure=measure, group=group, question=question):
                        with self.assertRaises(NoMeasure):
                            drop(question, group, measure)

    def test_measure_is_refused_ahead_of_all_else(self):
        # There is no column 9: without the refusal both would fail in another way.
        with self.assertRaises(NoMeasure):
            drop(("most", 9, 0), turns(["a", "b"]), "gini")
        with self.assertRaises(NoMeasure):
            best(COLUMNS, turns(["a", "b"]), "gini")

    def test_what_is_handed_in_stays(self):
        group = turns(["a", "b", "a"])
        drop(("most", 0, 1), group, "shares")
        self.assertEqual(group, turns(["a", "b", "a"]))


class Best(unittest.TestCase):
    def test_by_hand(self):
        group = turns(["a", "a", "b", "b", "b"])
        self.assertEqual(best(NUMBER, group, "misses"), (("most", 0, 1), (2, 1)))
        self.assertEqual(best(NUMBER, group, "shares"), (("most", 0, 1), (12, 5)))

    def test_measures_may_tell_unlike_ones(self):
        # By misses no cut lowers anything here; by shares one does.
        group = turns(["a", "a", "a", "b", "a"])
        self.assertIsNone(best(NUMBER, group, "misses"))
        self.assertEqual(best(NUMBER, group, "shares"), (("most", 0, 2), (3, 5)))

    def test_kinds_told(self):
        told = best(NUMBER, turns(["a", "b"]), "shares")
        self.assertEqual(told, (("most", 0, 0), (1, 1)))
        self.assertEqual([type(told), type(told[0]), type(told[1])], [tuple, tuple, tuple])

    def test_first_of_several_with_the_greatest_drop(self):
        for measure in MEASURES:
            self.assertEqual(best(NUMBER, turns(["a", "b", "a", "b"]), measure)[0], ("most", 0, 0))
            self.assertEqual(best(WORD, [(("x",), "a"), (("y",), "b")], measure)[0], ("is", 0, "x"))
            both = [((2, "x", 2, "x"), "a"), ((1, "y", 1, "y"), "b")]
            self.assertEqual(best(COLUMNS, both, measure)[0], ("most", 0, 1))

    def test_later_column_with_a_greater_drop(self):
        group = [((1, "x"), "a"), ((2, "y"), "b"), ((3, "x"), "a"), ((4, "y"), "b")]
        for measure in MEASURES:
            self.assertEqual(best([("n", "number"), ("w", "word")], group, measure), (("is", 1, "x"), (2, 1)))

    def test_none_where_there_is_no_question(self):
        for measure in MEASURES:
            self.assertIsNone(best(COLUMNS, [], measure))
            self.assertIsNone(best(COLUMNS, [((1, "x", 2, "y"), "a")], measure))
            self.assertIsNone(best(NUMBER, [((1,), "a"), ((1,), "b")], measure))

    def test_none_where_no_drop_is_above_nought(self):
        alike = [((1,), "a"), ((1,), "b"), ((2,), "a"), ((2,), "b")]
        for measure in MEASURES:
            self.assertIsNone(best(NUMBER, turns(["a", "a", "a"]), measure))
            self.assertIsNone(best(NUMBER, alike, measure))

    def test_least(self):
        group = turns(["b", "a", "a", "a", "a", "a"])
        self.assertEqual(best(NUMBER, group, "shares", 1), (("most", 0, 0), (5, 3)))
        self.assertEqual(best(NUMBER, group, "shares", 2), (("most", 0, 1), (2, 3)))
        self.assertEqual(best(NUMBER, group, "shares", 3), (("most", 0, 2), (1, 3)))
        self.assertIsNone(best(NUMBER, group, "shares", 4))
        self.assertIsNone(best(NUMBER, group, "shares", LARGE))

    def test_least_holds_for_the_part_for_yes_and_for_that_for_no(self):
        for least in (2, 3):
            self.assertIsNone(best(NUMBER, turns(["a", "b", "b"]), "misses", least))
            self.assertIsNone(best(NUMBER, turns(["b", "b", "a"]), "misses", least))
        self.assertEqual(best(NUMBER, turns(["a", "a", "b", "b"]), "misses", 2), (("most", 0, 1), (2, 1)))

    def test_least_left_out_by_place_and_by_name(self):
        group = turns(["b", "a", "a", "a"])
        one = best(NUMBER, group, "misses", 1)
        self.assertEqual(one, (("most", 0, 0), (1, 1)))
        self.assertEqual(best(NUMBER, group, "misses"), one)
        self.assertEqual(best(NUMBER, group, "misses", least=1), one)
        self.assertEqual(best(columns=NUMBER, group=group, measure="misses", least=1), one)
        self.assertEqual(best(columns=NUMBER, group=group, measure="misses"), one)
        self.assertEqual(best(NUMBER, group, measure="misses"), one)
        self.assertEqual(best(least=1, measure="misses", group=group, columns=NUMBER), one)
        self.assertIsNone(best(NUMBER, group, "misses", 2))
        self.assertIsNone(best(NUMBER, group, "misses", least=2))
        self.assertIsNone(best(least=2, measure="misses", group=group, columns=NUMBER))

    def test_numbers_of_thirty_figures(self):
        group = [((LARGE,), "a"), ((LARGE - 1,), "b"), ((-LARGE,), "b")]
        for measure in MEASURES:
            self.assertEqual(best(NUMBER, group, measure)[0], ("most", 0, LARGE - 1))

    def test_all_short_rows_of_answers(self):
        for many in range(7):
            for answers in itertools.product("ab", repeat=many):
                for measure, least in itertools.product(MEASURES, (1, 2, 3)):
                    group = turns(answers)
                    self.assertEqual(best(NUMBER, group, measure, least), best_by_hand(NUMBER, group, measure, least))

    def test_many_groups(self):
        for group in some_groups() + [some_group(seed, 60) for seed in range(2)]:
            for measure, least in itertools.product(MEASURES, (1, 2, 5)):
                told = best(COLUMNS, group, measure, least)
                self.assertEqual(told, best_by_hand(COLUMNS, group, measure, least), (group, measure, least))

    def test_another_measure_is_refused(self):
        for measure in NO_MEASURES:
            for columns, group in ((NUMBER, []), (NUMBER, turns(["a"])), (NUMBER, turns(["a", "b"])), (COLUMNS, [])):
                for least in (1, 2, LARGE):
                    with self.subTest(measure=measure, group=group, least=least):
                        with self.assertRaises(NoMeasure):
                            best(columns, group, measure, least)
                        with self.assertRaises(NoMeasure):
                            best(columns=columns, group=group, measure=measure)

    def test_what_is_handed_in_stays_and_may_be_changed(self):
        columns = list(NUMBER)
        group = turns(["a", "b", "a"])
        told = best(columns, group, "shares")
        self.assertEqual((columns, group), (NUMBER, turns(["a", "b", "a"])))
        columns.clear()
        group.clear()
        self.assertEqual(told, (("most", 0, 0), (1, 3)))
        self.assertEqual(best(NUMBER, turns(["a", "b", "a"]), "shares"), (("most", 0, 0), (1, 3)))


if __name__ == "__main__":
    unittest.main()
