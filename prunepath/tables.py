"""Tables: columns of numbers and words, and rows of values, each with an answer."""

from prunepath.errors import NoRow, NoTable
from prunepath.wholes import is_whole

LETTERS = "abcdefghijklmnopqrstuvwxyz"
LONGEST_WORD = 12
MOST_COLUMNS = 6
SORTS = ("number", "word")


def is_word(text):
    # A row is handed in with values of other kinds, too; none of them is a word.
    if not isinstance(text, str):
        return False
    if len(text) < 1 or len(text) > LONGEST_WORD:
        return False
    return all([sign in LETTERS for sign in text])


def check_columns(columns):
    if len(columns) < 1 or len(columns) > MOST_COLUMNS:
        raise NoTable(f"a table has one to {MOST_COLUMNS} columns")
    for name, sort in columns:
        if not is_word(name):
            raise NoTable(f"no name of a column: {name!r}")
        if sort not in SORTS:
            raise NoTable(f"no sort of a column: {sort!r}")
    names = [column[0] for column in columns]
    if len(set(names)) < len(names):
        raise NoTable("two columns have the same name")


def fits(value, sort):
    if sort == "number":
        return is_whole(value)
    return is_word(value)


def check_row(columns, values, answer):
    if len(values) != len(columns):
        raise NoRow("a row has one value for each column")
    for value, column in zip(values, columns):
        if not fits(value, column[1]):
            # The value is not shown: Python refuses to write a number of very many figures.
            raise NoRow(f"no value for the column {column!r}")
    if not is_word(answer):
        raise NoRow("an answer is a word")


class Table:
    def __init__(self, columns):
        check_columns(columns)
        self.kept_columns = list(columns)
        self.kept_rows = []

    def columns(self):
        return list(self.kept_columns)

    def put(self, values, answer):
        check_row(self.kept_columns, values, answer)
        self.kept_rows.append((tuple(values), answer))
        return len(self.kept_rows)

    def rows(self):
        return list(self.kept_rows)
