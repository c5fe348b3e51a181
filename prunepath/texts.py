"""Texts: how ratios, places and trees are written, and how whole numbers and ratios are read."""

from prunepath.errors import NoRow
from prunepath.groups import commonest
from prunepath.nodes import Fork
from prunepath.ratios import greatest_divisor

FIGURES = "0123456789"
MOST_FIGURES = 30


def show_whole(number):
    # Python refuses to write a number of very many figures at once, so it is written 64 of them at a time.
    parts = []
    rest = abs(number)
    while rest >= 10 ** 64:
        parts.append(str(rest % 10 ** 64).zfill(64))
        rest = rest // 10 ** 64
    parts.append(str(rest))
    if number < 0:
        parts.append("-")
    return "".join(reversed(parts))


def show_ratio(one):
    top = show_whole(one[0])
    if one[1] == 1:
        return top
    return top + "/" + show_whole(one[1])


def show_place(place):
    return "." if place == "" else place


def show_question(question, columns):
    name = columns[question[1]][0]
    if question[0] == "most":
        return name + "<=" + show_whole(question[2])
    return name + "=" + question[2]


def show_leaf(node):
    found = commonest(node.counted)
    return "-" if found is None else found


def show_tree(node, columns):
    if not isinstance(node, Fork):
        return show_leaf(node)
    asked = show_question(node.question, columns)
    yes = show_tree(node.yes, columns)
    no = show_tree(node.no, columns)
    return f"({asked} {yes} {no})"


def is_written_whole(text):
    figures = text[1:] if text.startswith("-") else text
    if len(figures) < 1 or len(figures) > MOST_FIGURES:
        return False
    if not all([sign in FIGURES for sign in figures]):
        return False
    # A nought ahead is only that of 0 itself, and that has no sign.
    return not figures.startswith("0") or text == "0"


def read_whole(text):
    if not is_written_whole(text):
        raise NoRow(f"no whole number: {text!r}")
    return int(text)


def read_ratio(text):
    if "/" not in text:
        return (read_whole(text), 1)
    parts = text.partition("/")
    top = read_whole(parts[0])
    bottom = read_whole(parts[2])
    if bottom < 2 or greatest_divisor(top, bottom) != 1:
        raise NoRow(f"no ratio in lowest terms: {text!r}")
    return (top, bottom)
