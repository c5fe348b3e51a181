"""What several tests share: wrong measures, groups that are the same at every run, and ratios as fractions."""

import random
from fractions import Fraction

MEASURES = ("misses", "shares")
NO_MEASURES = ("", " ", "miss", "share", "misse", "Misses", "SHARES", "misses ", " shares", "missesshares", "gini", "x")
COLUMNS = [("age", "number"), ("colour", "word"), ("size", "number"), ("shape", "word")]
WORDS = ("blue", "green", "red")
ANSWERS = ("maybe", "no", "yes")


def fraction(one):
    return Fraction(one[0], one[1])


def as_ratio(one):
    return (one.numerator, one.denominator)


def figures(many, seed):
    # A number of just so many figures, the same at every run.
    low = 10 ** (many - 1)
    return low + pow(seed, 3 * many) % (9 * low)


def some_group(seed, many, numbers=4, answers=3):
    # Few unlike values and answers, so that questions with the same drop come up often.
    chance = random.Random(seed)
    group = []
    for row in range(many):
        values = (
            chance.randrange(-numbers, numbers), chance.choice(WORDS), chance.randrange(numbers), chance.choice(WORDS),
        )
        group.append((values, ANSWERS[chance.randrange(answers)]))
    return group


def some_groups():
    return [some_group(seed, many) for many in (1, 2, 3, 5, 8, 13) for seed in range(12)]


def mess_by_hand(group, measure):
    # Reckoned from the rows themselves, another way than the program's.
    answers = [answer for values, answer in group]
    if not answers:
        return Fraction(0)
    if measure == "misses":
        return Fraction(min(len([one for one in answers if one != answer]) for answer in answers))
    unlike = len([1 for one in answers for other in answers if one != other])
    return Fraction(unlike, len(answers))


def end(cost):
    return ("end", (cost, 1))


def fork(cost, yes, no):
    return ("fork", (cost, 1), yes, no)


def costs_in_turn(costs):
    # One cost behind the other, and from the front again, for as many trees as are made.
    while True:
        yield from costs


def even_tree(many, costs):
    # So many forks, as flat as may be.
    own = next(costs)
    if many == 0:
        return ("end", own)
    left = (many - 1) // 2
    return ("fork", own, even_tree(left, costs), even_tree(many - 1 - left, costs))


def deep_tree(costs, sign="y"):
    # Sixty forks: a chain of twenty with smaller trees at its side, twenty deep in all.
    tree = ("end", next(costs))
    for step in range(20):
        side = even_tree(0 if step < 3 else 2 if step < 14 else 3, costs)
        if sign == "y":
            tree = ("fork", next(costs), tree, side)
        else:
            tree = ("fork", next(costs), side, tree)
    return tree


def shapes(many):
    # Every tree of just so many forks, without costs.
    if many == 0:
        return [None]
    told = []
    for left in range(many):
        told += [(yes, no) for yes in shapes(left) for no in shapes(many - 1 - left)]
    return told


def with_costs(shape, costs):
    own = next(costs)
    if shape is None:
        return ("end", own)
    return ("fork", own, with_costs(shape[0], costs), with_costs(shape[1], costs))


def trees_and_places(tree, place=""):
    told = [(place, tree)]
    if tree[0] == "fork":
        told += trees_and_places(tree[2], place + "y") + trees_and_places(tree[3], place + "n")
    return told


def all_prunings(tree, place=""):
    told = [[place]]
    if tree[0] == "fork":
        for yes in all_prunings(tree[2], place + "y"):
            told += [sorted(yes + no) for no in all_prunings(tree[3], place + "n")]
    return told
