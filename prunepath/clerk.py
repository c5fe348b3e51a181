"""A clerk: is told rows of text and answers each by a text."""

from prunepath.costs import costed
from prunepath.errors import NoRow, NoTable, NoTree
from prunepath.groups import check_measure
from prunepath.grow import grow
from prunepath.paths import path
from prunepath.prunings import cheapest, check_price, total
from prunepath.tables import Table, is_word
from prunepath.texts import read_ratio, read_whole, show_place, show_ratio, show_tree
from prunepath.trials import answer, chosen, trial

DEEPEST = 20
# What each row has behind its first word; VALUES are as many words as there are columns.
FORMS = {
    "row": ("VALUES", "ANSWER"),
    "try": ("VALUES", "ANSWER"),
    "grow": ("MEASURE", "DEEPEST", "LEAST"),
    "tree": (),
    "turns": (),
    "prune": ("PRICE",),
    "cost": ("PRICE",),
    "ask": ("PRICE", "VALUES"),
    "choose": (),
}
WITHOUT_TREE = ("row", "try", "grow")


def read_word(word):
    if not is_word(word):
        raise NoRow(f"no word: {word!r}")
    return word


def read_measure(word):
    check_measure(word)
    return word


def read_deepest(word):
    number = read_whole(word)
    if number < 0 or number > DEEPEST:
        raise NoRow(f"a tree is 0 to {DEEPEST} deep, not {word!r}")
    return number


def read_least(word):
    number = read_whole(word)
    if number < 1:
        raise NoRow(f"a part has at least one row, not {word!r}")
    return number


def read_price(word):
    price = read_ratio(word)
    check_price(price)
    return price


def read_by_kind(kind, word):
    if kind == "number":
        return read_whole(word)
    if kind == "MEASURE":
        return read_measure(word)
    if kind == "DEEPEST":
        return read_deepest(word)
    if kind == "LEAST":
        return read_least(word)
    if kind == "PRICE":
        return read_price(word)
    # What is left is a value of a word column, or an answer.
    return read_word(word)


def kinds_of_words(form, columns):
    told = []
    for kind in form:
        if kind == "VALUES":
            told.extend([column[1] for column in columns])
        else:
            told.append(kind)
    return told


def read_words(kinds, words):
    if len(words) != len(kinds):
        raise NoRow("too few or too many words")
    return [read_by_kind(kind, word) for kind, word in zip(kinds, words)]


def read_column(word):
    # With no colon the sort is without signs, with two it holds one: the table refuses both.
    parts = word.partition(":")
    return (parts[0], parts[2])


def put_in(table, given):
    return str(table.put(given[:-1], given[-1]))


def show_turns(steps):
    return " ".join([show_ratio(price) + ":" + str(len(places)) for price, places in steps])


def show_places(places):
    return " ".join([show_place(place) for place in places])


def show_choice(found):
    following = "-" if found[1] is None else show_ratio(found[1])
    return " ".join([show_ratio(found[0]), following, str(found[2]), str(found[3])])


class Clerk:
    def __init__(self):
        self.table = None
        self.tries = None
        self.grown = None
        self.measure = None

    def say(self, row):
        words = row.split(" ")
        if words[0] == "columns":
            return self.start_table(words[1:])
        self.check_standing(words[0])
        kinds = kinds_of_words(FORMS[words[0]], self.table.columns())
        given = read_words(kinds, words[1:])
        if words[0] == "row":
            return put_in(self.table, given)
        if words[0] == "try":
            return put_in(self.tries, given)
        if words[0] == "grow":
            return self.grow_tree(given)
        return self.tell_of_tree(words[0], given)

    def start_table(self, words):
        columns = [read_column(word) for word in words]
        # Where the columns are refused, it is here, and nothing is changed yet.
        self.table = Table(columns)
        self.tries = Table(columns)
        self.grown = None
        return "ok"

    def check_standing(self, first):
        if first not in FORMS:
            raise NoRow(f"no row begins with {first!r}")
        if self.table is None:
            raise NoTable("no table stands")
        if self.grown is None and first not in WITHOUT_TREE:
            raise NoTree("no tree stands")

    def grow_tree(self, given):
        self.measure = given[0]
        self.grown = grow(self.table.columns(), self.table.rows(), given[0], given[1], given[2])
        return str(self.grown.leaves())

    def tell_of_tree(self, first, given):
        if first == "tree":
            return show_tree(self.grown, self.table.columns())
        if first == "choose":
            return show_choice(chosen(trial(self.grown, self.measure, self.tries.rows())))
        tree = costed(self.grown, self.measure)
        if first == "turns":
            return show_turns(path(tree))
        places = cheapest(tree, given[0])
        if first == "prune":
            return show_places(places)
        if first == "cost":
            return show_ratio(total(tree, places, given[0]))
        found = answer(self.grown, places, tuple(given[1:]))
        return "-" if found is None else found
