"""Tables: points [2], [5] and [6] and the interface, prunepath/tables.py."""

import string
import unittest

from prunepath.errors import NoRow, NoTable
from prunepath.tables import Table, is_word

SIGNS = [chr(code) for code in range(ord(" "), ord("~") + 1)]
OTHER_SIGNS = [sign for sign in SIGNS if sign not in string.ascii_lowercase]
TWELVE = "abcdefghijkl"
NO_WORDS = ("", "A", "Red", "reD", "re d", " red", "red ", "r3d", "3", "-1", "red.", "re_d", "`", "{", TWELVE + "m")
NO_NUMBERS = (True, False, None, "", "1", "red", "-7")
NO_WORD_VALUES = (0, 1, -7, 10 ** 29, True, False, None) + NO_WORDS
SIX = [
    ("age", "number"), ("colour", "word"), ("number", "word"),
    ("word", "number"), (TWELVE, "number"), ("z", "word"),
]


def two_columns():
    return Table([("age", "number"), ("colour", "word")])


class Words(unittest.TestCase):
    def test_lengths(self):
        for long in range(0, 30):
            with self.subTest(long=long):
                self.assertIs(is_word("a" * long), 1 <= long <= 12)

    def test_lengths_at_the_edges(self):
        self.assertIs(is_word(""), False)
        self.assertIs(is_word("q"), True)
        self.assertIs(is_word("abcdefghijkl"), True)
        self.assertIs(is_word("abcdefghijklm"), False)

    def test_each_small_letter(self):
        for letter in string.ascii_lowercase:
            self.assertIs(is_word(letter), True)
            self.assertIs(is_word("a" + letter + "z"), True)

    def test_another_sign_at_each_place(self):
        for long in range(1, 13):
            word = TWELVE[:long]
            for place in range(long):
                for sign in OTHER_SIGNS:
                    self.assertIs(is_word(word[:place] + sign + word[place + 1:]), False)

    def test_another_sign_ahead_and_behind(self):
        for sign in OTHER_SIGNS:
            self.assertIs(is_word(sign), False)
            self.assertIs(is_word(sign + "word"), False)
            self.assertIs(is_word("word" + sign), False)


class Columns(unittest.TestCase):
    def check_refused(self, columns):
        before = list(columns)
        with self.assertRaises(NoTable):
            Table(columns)
        self.assertEqual(columns, before)

    def test_one_to_six(self):
        for many in range(1, 7):
            table = Table(SIX[:many])
            self.assertEqual(table.columns(), SIX[:many])
            self.assertEqual(table.rows(), [])

    def test_one_of_each_sort(self):
        self.assertEqual(Table([("a", "number")]).columns(), [("a", "number")])
        self.assertEqual(Table([("a", "word")]).columns(), [("a", "word")])

    def test_kinds_told(self):
        told = Table(SIX).columns()
        self.assertIs(type(told), list)
        for column in told:
            self.assertIs(type(column), tuple)

    def test_order_is_kept(self):
        turned = list(reversed(SIX))
        self.assertEqual(Table(turned).columns(), turned)

    def test_none_and_too_many_are_refused(self):
        self.check_refused([])
        self.check_refused(SIX + [("more", "number")])
        self.check_refused(SIX + [("more", "word"), ("most", "word")])

    def test_two_names_alike_are_refused(self):
        self.check_refused([("a", "number"), ("a", "number")])
        self.check_refused([("a", "number"), ("a", "word")])
        self.check_refused([("a", "word"), ("b", "word"), ("a", "word")])
        for place in range(5):
            self.check_refused(SIX[:5] + [(SIX[place][0], "word")])

    def test_a_name_that_is_none_is_refused_at_each_place(self):
        for name in NO_WORDS:
            for place in range(6):
                for sort in ("number", "word"):
                    with self.subTest(name=name, place=place, sort=sort):
                        self.check_refused(SIX[:place] + [(name, sort)] + SIX[place + 1:])

    def test_a_sort_that_is_none_is_refused_at_each_place(self):
        for sort in ("", "Number", "WORD", "numbers", "words", "num", "wor", "text", "number ", " word", "numberword"):
            for place in range(6):
                with self.subTest(sort=sort, place=place):
                    self.check_refused(SIX[:place] + [("name", sort)] + SIX[place + 1:])


class Rows(unittest.TestCase):
    def check_refused(self, table, values, answer):
        rows = table.rows()
        columns = table.columns()
        before = list(values)
        with self.assertRaises(NoRow):
            table.put(values, answer)
        self.assertEqual(values, before)
        self.assertEqual(table.rows(), rows)
        self.assertEqual(table.columns(), columns)

    def test_put_tells_how_many(self):
        table = two_columns()
        self.assertEqual(table.put([1, "red"], "yes"), 1)
        self.assertEqual(table.put([2, "blue"], "no"), 2)
        self.assertEqual(table.put([1, "red"], "yes"), 3)

    def test_rows_are_told_in_their_order(self):
        table = two_columns()
        for values, answer in (([3, "red"], "yes"), ([1, "blue"], "no"), ([2, "red"], "no"), ([3, "red"], "yes")):
            table.put(values, answer)
        self.assertEqual(table.rows(), [
            ((3, "red"), "yes"), ((1, "blue"), "no"), ((2, "red"), "no"), ((3, "red"), "yes"),
        ])

    def test_kinds_told(self):
        table = two_columns()
        many = table.put([1, "red"], "yes")
        self.assertIs(type(many), int)
        told = table.rows()
        self.assertIs(type(told), list)
        self.assertIs(type(told[0]), tuple)
        self.assertEqual(len(told[0]), 2)
        self.assertIs(type(told[0][0]), tuple)
        self.assertIs(type(told[0][1]), str)

    def test_whole_numbers_of_each_size(self):
        table = Table([("a", "number")])
        numbers = [0, 1, -1, 12, 10 ** 29, -(10 ** 29), 10 ** 30 - 1, 1 - 10 ** 30]
        for number in numbers:
            table.put([number], "yes")
        self.assertEqual(table.rows(), [((number,), "yes") for number in numbers])

    def test_words_of_each_length(self):
        table = Table([("a", "word")])
        words = [TWELVE[:long] for long in range(1, 13)] + ["z", "number", "word", "true", "none"]
        for word in words:
            table.put([word], word)
        self.assertEqual(table.rows(), [((word,), word) for word in words])

    def test_six_columns(self):
        table = Table(SIX)
        self.assertEqual(table.put([1, "red", "one", -5, 0, "z"], "yes"), 1)
        self.assertEqual(table.rows(), [((1, "red", "one", -5, 0, "z"), "yes")])

    def test_sixty_rows(self):
        table = two_columns()
        for number in range(60):
            self.assertEqual(table.put([number % 7, "red"], "yes"), number + 1)
        self.assertEqual(table.rows(), [((number % 7, "red"), "yes") for number in range(60)])

    def test_too_many_and_too_few_values_are_refused(self):
        table = two_columns()
        for values in ([], [1], ["red"], [1, "red", 2], [1, "red", "red"], [1, "red", None], [1, "red", 1, "red"]):
            with self.subTest(values=values):
                self.check_refused(table, values, "yes")
        self.check_refused(Table([("a", "number")]), [], "yes")
        self.check_refused(Table(SIX), [1, "red", "one", -5, 0], "yes")
        self.check_refused(Table(SIX), [1, "red", "one", -5, 0, "z", "z"], "yes")

    def test_values_in_the_wrong_order_are_refused(self):
        self.check_refused(two_columns(), ["red", 1], "yes")

    def test_no_number_is_refused_in_each_number_column(self):
        for wrong in NO_NUMBERS:
            for place in (0, 3, 4):
                values = [1, "red", "one", -5, 0, "z"]
                values[place] = wrong
                with self.subTest(wrong=wrong, place=place):
                    self.check_refused(Table(SIX), values, "yes")

    def test_no_word_is_refused_in_each_word_column(self):
        for wrong in NO_WORD_VALUES:
            for place in (1, 2, 5):
                values = [1, "red", "one", -5, 0, "z"]
                values[place] = wrong
                with self.subTest(wrong=wrong, place=place):
                    self.check_refused(Table(SIX), values, "yes")

    def test_an_answer_that_is_no_word_is_refused(self):
        table = two_columns()
        for answer in NO_WORDS:
            with self.subTest(answer=answer):
                self.check_refused(table, [1, "red"], answer)

    def test_behind_a_refusal_the_row_unspoiled_is_put_in(self):
        spoiled = [([True, "red"], "yes"), ([1, None], "yes"), ([1], "yes"), ([1, "red", 1], "yes"), ([1, "red"], "Yes")]
        table = two_columns()
        for many, (values, answer) in enumerate(spoiled):
            with self.subTest(values=values, answer=answer):
                self.check_refused(table, values, answer)
                self.assertEqual(table.put([1, "red"], "yes"), many + 1)
                self.assertEqual(table.rows(), [((1, "red"), "yes")] * (many + 1))

    def test_number_told_is_the_number_put_in(self):
        table = Table([("a", "number")])
        table.put([1], "yes")
        self.check_refused(table, [True], "yes")
        self.assertIs(type(table.rows()[0][0][0]), int)


class KeptApart(unittest.TestCase):
    def test_columns_handed_in_stay_and_may_be_changed(self):
        columns = [("age", "number"), ("colour", "word")]
        table = Table(columns)
        self.assertEqual(columns, [("age", "number"), ("colour", "word")])
        columns[0] = ("age", "word")
        columns.append(("more", "number"))
        self.assertEqual(table.columns(), [("age", "number"), ("colour", "word")])
        self.assertEqual(table.put([1, "red"], "yes"), 1)
        with self.assertRaises(NoRow):
            table.put(["one", "red", 1], "yes")

    def test_putting_leaves_the_columns_handed_in(self):
        columns = [("age", "number"), ("colour", "word")]
        table = Table(columns)
        table.put([1, "red"], "yes")
        self.assertEqual(columns, [("age", "number"), ("colour", "word")])

    def test_values_handed_in_stay_and_may_be_changed(self):
        table = two_columns()
        values = [1, "red"]
        table.put(values, "yes")
        self.assertEqual(values, [1, "red"])
        values[0] = 2
        values.append("blue")
        self.assertEqual(table.rows(), [((1, "red"), "yes")])

    def test_one_list_put_in_twice(self):
        table = two_columns()
        values = [1, "red"]
        table.put(values, "yes")
        values[0] = 2
        table.put(values, "no")
        self.assertEqual(table.rows(), [((1, "red"), "yes"), ((2, "red"), "no")])

    def test_columns_told_are_the_askers_own(self):
        table = two_columns()
        told = table.columns()
        told[0] = ("age", "word")
        told.append(("more", "number"))
        self.assertEqual(table.columns(), [("age", "number"), ("colour", "word")])
        self.assertEqual(table.put([1, "red"], "yes"), 1)
        self.assertEqual(told, [("age", "word"), ("colour", "word"), ("more", "number")])

    def test_rows_told_are_the_askers_own(self):
        table = two_columns()
        table.put([1, "red"], "yes")
        told = table.rows()
        told.append("more")
        told[0] = "spoiled"
        self.assertEqual(table.rows(), [((1, "red"), "yes")])
        self.assertEqual(table.put([2, "red"], "no"), 2)
        self.assertEqual(told, ["spoiled", "more"])

    def test_rows_told_earlier_stay_as_they_were(self):
        table = two_columns()
        none = table.rows()
        table.put([1, "red"], "yes")
        one = table.rows()
        table.put([2, "red"], "no")
        self.assertEqual(none, [])
        self.assertEqual(one, [((1, "red"), "yes")])

    def test_two_tables_keep_their_rows_apart(self):
        columns = [("age", "number")]
        one = Table(columns)
        other = Table(columns)
        self.assertEqual(one.put([1], "yes"), 1)
        self.assertEqual(one.put([2], "yes"), 2)
        self.assertEqual(other.rows(), [])
        self.assertEqual(other.put([3], "no"), 1)
        self.assertEqual(one.rows(), [((1,), "yes"), ((2,), "yes")])
        self.assertEqual(other.rows(), [((3,), "no")])

    def test_two_tables_keep_their_columns_apart(self):
        one = Table([("age", "number")])
        other = Table([("colour", "word"), ("size", "word")])
        self.assertEqual(one.columns(), [("age", "number")])
        self.assertEqual(other.columns(), [("colour", "word"), ("size", "word")])


if __name__ == "__main__":
    unittest.main()
