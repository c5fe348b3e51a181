"""The clerk: points [2], [3], [29], [30] and the interface, prunepath/clerk.py."""

import itertools
import random
import unittest
from fractions import Fraction

from prunepath.clerk import Clerk
from prunepath.costs import costed
from prunepath.errors import NoMeasure, NoPrice, NoRow, NoTable, NoTree, PruneError
from prunepath.grow import grow
from prunepath.paths import for_price, path
from prunepath.prunings import cheapest, total
from prunepath.texts import show_place, show_ratio, show_tree
from prunepath.trials import answer, chosen, trial
from samples import COLUMNS, MEASURES, NO_MEASURES, as_ratio, some_group

START = (
    ("columns age:number colour:word", "ok"),
    ("row 7 red yes", "1"),
    ("row 8 red no", "2"),
    ("row 9 blue no", "3"),
    ("row 12 blue yes", "4"),
    ("row 12 blue yes", "5"),
    ("row 12 blue yes", "6"),
    ("row 12 blue yes", "7"),
    ("try 7 red yes", "1"),
    ("try 10 blue no", "2"),
    ("try 9 green no", "3"),
)
GROWN = START + (("grow shares 20 1", "3"),)
# All that a clerk tells of the tree of GROWN.
TOLD = (
    ("tree", "(age<=9 (age<=7 yes no) yes)"),
    ("turns", "0:3 4/3:2 32/21:1"),
    ("prune 0", "n yn yy"),
    ("prune 13/10", "n yn yy"),
    ("prune 4/3", "n y"),
    ("prune 3/2", "n y"),
    ("prune 32/21", "."),
    ("cost 0", "0"),
    ("cost 1/2", "3/2"),
    ("cost 4/3", "4"),
    ("cost 32/21", "92/21"),
    ("ask 0 7 red", "yes"),
    ("ask 3/2 7 red", "no"),
    ("ask 100 8 green", "yes"),
    ("choose", "0 4/3 3 1"),
)
WITHOUT_TREE = ("row", "try", "grow")
NEED_TREE = ("tree", "turns", "prune", "cost", "ask", "choose")
# Right for the columns of START.
RIGHT = {
    "row": "row 7 red yes", "try": "try 7 red yes", "grow": "grow misses 3 1", "tree": "tree", "turns": "turns",
    "prune": "prune 1/2", "cost": "cost 1/2", "ask": "ask 1/2 7 red", "choose": "choose",
}
NO_NUMBERS = ("", "-", "x", "+1", "01", "-0", "00", "1.0", "1_0", "1/1", "1" * 31, "-" + "9" * 31, "red", "--1", "True")
NO_WORDS = ("", "Red", "red1", "7", "-", "abcdefghijklm", "r_d", "red.", "re:d", "rEd", "~")
NO_PRICES = (
    "", "-", "x", "+1", "01", "-0", "0/1", "0/2", "1/1", "2/4", "1/0", "1/-2", "1/2/3", "1//2", "/", "1/", "/2", "1.5",
    "1" * 31, "1/" + "3" * 31, "-2/4", "-1/1", "-01", "-1/-2",
)
LOW_PRICES = (("-1", (-1, 1)), ("-1/2", (-1, 2)), ("-" + "9" * 30, (-(10 ** 30 - 1), 1)), ("-7/3", (-7, 3)))
UNKNOWN = (
    "", " ", "  ", " row 7 red yes", "Row 7 red yes", "ROW", "rows", "rowx 7 red yes", "columnss", "Columns a:number",
    " columns a:number", "column a:number", "tree.", " tree", "Tree", "trees", "grown", "help", "row:", "quit", "-",
    "7", "asks 1 7 red", "prunes 1", "costs 1", "turn", "choice", "?", "put 7 red yes", "tryy 7 red yes", "row,7",
)


def clerk_with(rows):
    clerk = Clerk()
    for row, told in rows:
        clerk.say(row)
    return clerk


def standing():
    # A clerk without a table, one without a tree, and one with all.
    return {"nothing": Clerk(), "table": clerk_with(START), "tree": clerk_with(GROWN)}


class Case(unittest.TestCase):
    def check_rows(self, clerk, rows):
        for row, want in rows:
            told = clerk.say(row)
            self.assertIs(type(told), str)
            self.assertEqual(told, want, row)

    def check_refused(self, clerk, row, sort):
        with self.assertRaises(PruneError, msg=row) as caught:
            clerk.say(row)
        self.assertIs(type(caught.exception), sort, row)
        return caught.exception


class Told(Case):
    def test_each_row(self):
        self.check_rows(Clerk(), GROWN + TOLD + TOLD)

    def test_by_misses(self):
        self.check_rows(Clerk(), START + (
            ("grow misses 20 1", "3"),
            ("tree", "(age<=9 (age<=7 yes no) yes)"),
            ("turns", "0:3 1:1"),
            ("prune 0", "n yn yy"),
            ("prune 1", "."),
            ("cost 0", "0"),
            ("cost 1/3", "1"),
            ("cost 2", "4"),
            ("choose", "0 1 3 1"),
        ))

    def test_deepest_and_least(self):
        self.check_rows(Clerk(), START + (
            ("grow shares 0 1", "1"), ("tree", "yes"), ("turns", "0:1"), ("prune 0", "."), ("choose", "0 - 1 2"),
            ("grow shares 1 1", "2"), ("tree", "(age<=9 no yes)"),
            ("grow shares 20 3", "2"), ("tree", "(age<=9 no yes)"),
            ("grow shares 20 4", "1"), ("tree", "yes"),
            ("grow shares 20 " + "9" * 30, "1"),
            ("grow shares 20 1", "3"), ("tree", "(age<=9 (age<=7 yes no) yes)"),
        ))

    def test_no_rows(self):
        self.check_rows(Clerk(), (
            ("columns a:number", "ok"), ("grow shares 20 1", "1"), ("tree", "-"), ("turns", "0:1"), ("prune 0", "."),
            ("prune 7/2", "."), ("cost 0", "0"), ("cost 7/2", "7/2"), ("ask 0 7", "-"), ("choose", "0 - 1 0"),
            ("try 7 yes", "1"), ("choose", "0 - 1 1"),
        ))

    def test_nothing_to_try(self):
        clerk = clerk_with([row for row in GROWN if not row[0].startswith("try")])
        # None is missed by any: the one with the fewest leaves.
        self.check_rows(clerk, (("choose", "32/21 - 1 0"),))

    def test_rows_to_try_behind_growing(self):
        clerk = clerk_with(GROWN)
        self.check_rows(clerk, (("try 7 red no", "4"), ("try 8 red no", "5"), ("choose", "4/3 32/21 2 2")))

    def test_tries_need_no_tree_and_are_apart_from_the_rows(self):
        self.check_rows(Clerk(), (
            ("columns a:number", "ok"), ("try 1 yes", "1"), ("row 1 no", "1"), ("try 2 yes", "2"), ("row 2 no", "2"),
            ("row 3 no", "3"), ("grow misses 20 1", "1"), ("tree", "no"), ("choose", "0 - 1 2"),
        ))

    def test_a_tree_that_stands_stays(self):
        clerk = clerk_with(GROWN)
        self.check_rows(clerk, (("row 1 red no", "8"), ("row 2 red no", "9"), ("row 3 green maybe", "10")) + TOLD)
        self.check_rows(clerk, (("grow shares 1 1", "2"), ("tree", "(age<=9 no yes)"), ("row 7 red no", "11")))

    def test_grown_with_one_measure_and_the_other(self):
        clerk = clerk_with(GROWN)
        self.check_rows(clerk, (("grow misses 20 1", "3"), ("turns", "0:3 1:1"), ("cost 1", "3")))
        self.check_rows(clerk, (("grow shares 20 1", "3"),) + TOLD)

    def test_columns_told_anew(self):
        clerk = clerk_with(GROWN)
        self.check_rows(clerk, (("columns b:word", "ok"),))
        for first in NEED_TREE:
            self.check_refused(clerk, RIGHT[first], NoTree)
        self.check_rows(clerk, (
            ("row red no", "1"), ("try red no", "1"), ("grow shares 20 1", "1"), ("tree", "no"), ("choose", "0 - 1 0"),
        ))
        self.check_refused(clerk, "row 7 red no", NoRow)

    def test_the_same_columns_told_anew(self):
        clerk = clerk_with(GROWN)
        self.check_rows(clerk, START)
        self.check_refused(clerk, "tree", NoTree)
        self.check_rows(clerk, (("grow shares 20 1", "3"),) + TOLD)

    def test_two_clerks(self):
        one = clerk_with(GROWN)
        other = Clerk()
        self.check_refused(other, "tree", NoTable)
        self.check_rows(other, (("columns b:word", "ok"), ("row red no", "1"), ("try red yes", "1")))
        self.check_refused(other, "tree", NoTree)
        self.check_rows(one, TOLD)
        self.check_rows(other, (("grow misses 5 1", "1"), ("tree", "no"), ("choose", "0 - 1 1")))
        self.check_rows(one, TOLD + (("row 7 red yes", "8"), ("try 7 red yes", "4")))
        self.check_rows(other, (("row red no", "2"), ("try red yes", "2")))

    def test_six_columns(self):
        clerk = Clerk()
        self.check_rows(clerk, (
            ("columns a:number b:word c:number d:word e:number f:word", "ok"),
            ("row 1 x -2 y 3 z p", "1"), ("row 1 x 0 y 3 z q", "2"), ("try 0 a 0 b 0 c q", "1"),
            ("grow shares 20 1", "2"), ("tree", "(c<=-2 p q)"), ("ask 0 9 a -2 b 9 c", "p"), ("choose", "0 1 2 0"),
        ))

    def test_numbers_of_thirty_figures(self):
        nines = "9" * 30
        self.check_rows(Clerk(), (
            ("columns a:number", "ok"), ("row -" + nines + " p", "1"), ("row " + nines + " q", "2"),
            ("grow misses 20 1", "2"), ("tree", "(a<=-" + nines + " p q)"), ("ask 0 -" + nines, "p"),
            ("ask 0 " + nines, "q"), ("ask " + nines + " 0", "p"), ("cost " + nines, "1" + "0" * 30),
            ("cost 1/" + nines, "2/" + nines), ("prune " + nines + "/2", "."),
        ))

    def test_words_of_twelve_letters(self):
        self.check_rows(Clerk(), (
            ("columns abcdefghijkl:word", "ok"), ("row mnopqrstuvwx yyyyyyyyyyyy", "1"), ("row z z", "2"),
            ("grow misses 20 1", "2"), ("tree", "(abcdefghijkl=mnopqrstuvwx yyyyyyyyyyyy z)"),
        ))

    def test_words_that_are_first_words(self):
        self.check_rows(Clerk(), (
            ("columns row:word try:number", "ok"), ("row row 1 try", "1"), ("row columns 2 tree", "2"),
            ("try grow 1 choose", "1"), ("grow shares 20 1", "2"), ("ask 0 row 1", "try"),
        ))


class Refused(Case):
    def test_unknown_first_word(self):
        for name, clerk in standing().items():
            for row in UNKNOWN:
                self.check_refused(clerk, row, NoRow)

    def test_no_table_ahead_of_the_rest(self):
        for first, row in RIGHT.items():
            for said in (row, first, first + " ", row + " more", first + " x y z", first + " -1"):
                self.check_refused(Clerk(), said, NoTable)

    def test_no_tree_ahead_of_the_rest(self):
        clerk = clerk_with(START)
        for first in NEED_TREE:
            for said in (RIGHT[first], first, first + " ", RIGHT[first] + " more", first + " x", first + " -1"):
                self.check_refused(clerk, said, NoTree)

    def test_no_tree_where_none_is_needed(self):
        for first in WITHOUT_TREE:
            clerk_with(START).say(RIGHT[first])

    def test_count_of_words(self):
        clerk = clerk_with(GROWN)
        for first, row in RIGHT.items():
            words = row.split(" ")
            for some in range(1, len(words)):
                self.check_refused(clerk, " ".join(words[:some]), NoRow)
            for more in (" ", " x", " 1", "  ", " " + words[-1], " x y"):
                self.check_refused(clerk, row + more, NoRow)

    def test_count_of_words_ahead_of_what_they_are(self):
        clerk = clerk_with(GROWN)
        for row in (
            "prune -1 x", "cost -1 -1", "ask -1", "ask -1 7", "ask -1 7 red red", "grow x", "grow x 1", "grow x 1 1 1",
            "prune -1 ", "grow  1", "grow other",
        ):
            self.check_refused(clerk, row, NoRow)

    def test_values(self):
        clerk = clerk_with(GROWN)
        for wrong in NO_NUMBERS:
            for row in ("row {} red yes", "try {} red yes", "ask 0 {} red"):
                self.check_refused(clerk, row.replace("{}", wrong), NoRow)
        for wrong in NO_WORDS:
            for row in ("row 7 {} yes", "try 7 {} yes", "row 7 red {}", "try 7 red {}", "ask 0 7 {}"):
                self.check_refused(clerk, row.replace("{}", wrong), NoRow)

    def test_prices(self):
        clerk = clerk_with(GROWN)
        for wrong in NO_PRICES:
            for row in ("prune {}", "cost {}", "ask {} 7 red"):
                self.check_refused(clerk, row.replace("{}", wrong), NoRow)

    def test_prices_below_nought(self):
        clerk = clerk_with(GROWN)
        for word, price in LOW_PRICES:
            # Behind the price there may be what is no value: the price comes first.
            for row in ("prune {}", "cost {}", "ask {} 7 red", "ask {} x red", "ask {} 7 7", "ask {}  "):
                refused = self.check_refused(clerk, row.replace("{}", word), NoPrice)
                self.assertEqual(refused.price, price)

    def test_measures(self):
        clerk = clerk_with(GROWN)
        for wrong in NO_MEASURES:
            if " " not in wrong:
                # The words behind may be wrong, too: the measure comes first.
                for row in ("grow {} 20 1", "grow {} 21 1", "grow {} x y", "grow {}  "):
                    self.check_refused(clerk, row.replace("{}", wrong), NoMeasure)

    def test_deepest_and_least(self):
        clerk = clerk_with(GROWN)
        for wrong in NO_NUMBERS + ("21", "-1", "100", "9" * 30, "1/2"):
            self.check_refused(clerk, "grow shares " + wrong + " 1", NoRow)
        for wrong in NO_NUMBERS + ("0", "-1", "-" + "9" * 30, "1/2"):
            self.check_refused(clerk, "grow shares 20 " + wrong, NoRow)
        for right in range(21):
            clerk.say("grow shares " + str(right) + " 1")
        for right in ("1", "2", "60", "61", "9" * 30):
            clerk.say("grow shares 20 " + right)

    def test_columns(self):
        rows = (
            "columns", "columns ", "columns  ", "columns a", "columns a:number b", "columns :", "columns a:",
            "columns :number", "columns a:number:", "columns a::number", "columns :a:number", "columns a:b:c",
            "columns a:number ", "columns  a:number", "columns a:number  b:word", "columns a:numbers",
            "columns a:Number", "columns a:words", "columns A:number", "columns a1:number",
            "columns abcdefghijklm:word", "columns a:number a:word", "columns a:word b:word a:word", "columns a=number",
            "columns a:number,b:word",
            "columns a:word b:word c:word d:word e:word f:word g:word", "columns number", "columns a:number b:number:x",
            "columns a:word b:word c:word d:word e:word f:word g", "columns -:word", "columns 7:number",
        )
        for name, clerk in standing().items():
            for row in rows:
                self.check_refused(clerk, row, NoTable)

    def test_price_that_is_none_ahead_of_a_value_that_is_none(self):
        clerk = clerk_with(GROWN)
        self.check_refused(clerk, "ask 1/1 x red", NoRow)
        self.check_refused(clerk, "ask 1 x red", NoRow)


class NothingChanged(Case):
    # Refused of a clerk with all and with columns of START; most of them are of one with less, too.
    WRONG = UNKNOWN + (
        "columns", "columns ", "columns a", "columns a:number:b", "columns a:number a:number", "columns a:number ",
        "columns a:word b:word c:word d:word e:word f:word g:word", "columns A:number", "columns a:number b:sort",
        "row", "row 7", "row 7 red", "row 7 red yes no", "row red 7 yes", "row 7 red Yes", "row 7  yes",
        "row 07 red yes",
        "try", "try 7", "try 7 red", "try 7 red yes no", "try red 7 yes", "try 7 red 7", "try 7 red ", "try -0 red yes",
        "grow", "grow misses", "grow misses 1", "grow gini 1 1", "grow misses 21 1", "grow misses 1 0",
        "grow misses 1 1 1", "tree x", "turns ", "choose 1", "prune", "prune -1", "prune 2/4", "cost", "cost -1/2",
        "cost 1/1", "ask", "ask 0", "ask -1 7 red", "ask 0 red 7", "ask 0 7 red yes", "ask x 7 red",
    )

    def check_all_refused(self, clerk):
        for row in self.WRONG:
            with self.assertRaises(PruneError, msg=row):
                clerk.say(row)

    def test_refused_ahead_of_each_row(self):
        clerk = Clerk()
        more = (("row 1 red no", "8"), ("try 1 red no", "4"), ("grow misses 1 1", "2"), ("turns", "0:2 2:1"))
        for row, want in GROWN + TOLD + more:
            self.check_all_refused(clerk)
            self.assertEqual(clerk.say(row), want, row)

    def test_after_each_refused_row_all_is_told_as_before(self):
        for row in self.WRONG:
            clerk = clerk_with(GROWN)
            with self.assertRaises(PruneError):
                clerk.say(row)
            self.check_rows(clerk, TOLD + (("row 7 red yes", "8"), ("try 7 red yes", "4")))

    def test_refused_without_a_table_and_without_a_tree(self):
        clerk = Clerk()
        for row in RIGHT.values():
            self.check_refused(clerk, row, NoTable)
        self.check_rows(clerk, START)
        for first in NEED_TREE:
            self.check_refused(clerk, RIGHT[first], NoTree)
        self.check_rows(clerk, (("grow shares 20 1", "3"),) + TOLD)


class AgainstTheModules(Case):
    def clerk_of(self, rows, tries):
        clerk = Clerk()
        self.assertEqual(clerk.say("columns " + " ".join([name + ":" + sort for name, sort in COLUMNS])), "ok")
        for word, group in (("row", rows), ("try", tries)):
            for number, (values, wanted) in enumerate(group):
                said = " ".join([word] + [str(value) for value in values] + [wanted])
                self.assertEqual(clerk.say(said), str(number + 1))
        return clerk

    def check_prices(self, clerk, node, measure, values):
        tree = costed(node, measure)
        steps = path(tree)
        turns = [show_ratio(price) + ":" + str(len(places)) for price, places in steps]
        self.assertEqual(clerk.say("turns"), " ".join(turns))
        told = [Fraction(*price) for price, places in steps]
        told += [one + Fraction(1, 1000) for one in told] + [one - Fraction(1, 1000) for one in told[1:]]
        for price in map(as_ratio, told):
            word = show_ratio(price)
            places = cheapest(tree, price)
            self.assertEqual(places, for_price(steps, price))
            self.assertEqual(clerk.say("prune " + word), " ".join(map(show_place, places)))
            self.assertEqual(clerk.say("cost " + word), show_ratio(total(tree, places, price)))
            for row in values:
                want = answer(node, places, row)
                said = " ".join(["ask", word] + [str(value) for value in row])
                self.assertEqual(clerk.say(said), "-" if want is None else want)

    def check(self, rows, tries, measure, deepest, least):
        clerk = self.clerk_of(rows, tries)
        node = grow(COLUMNS, rows, measure, deepest, least)
        self.assertEqual(clerk.say(f"grow {measure} {deepest} {least}"), str(node.leaves()))
        self.assertEqual(clerk.say("tree"), show_tree(node, COLUMNS))
        self.check_prices(clerk, node, measure, [values for values, wanted in tries[:4]])
        found = chosen(trial(node, measure, tries))
        following = "-" if found[1] is None else show_ratio(found[1])
        self.assertEqual(clerk.say("choose"), f"{show_ratio(found[0])} {following} {found[2]} {found[3]}")

    def test_many_tables(self):
        chance = random.Random(5)
        for seed, measure in itertools.product(range(8), MEASURES):
            rows = some_group(seed, chance.choice((1, 5, 12, 30)))
            tries = some_group(seed + 100, chance.choice((0, 1, 20)))
            self.check(rows, tries, measure, chance.choice((0, 2, 5, 20)), chance.choice((1, 1, 2, 4)))

    def test_sixty_rows(self):
        for measure in MEASURES:
            self.check(some_group(3, 60, numbers=50), some_group(4, 60, numbers=50), measure, 20, 1)


if __name__ == "__main__":
    unittest.main()
