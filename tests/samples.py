"""What several tests share: wrong measures, groups that are the same at every run, and ratios as fractions."""

import itertools
import random
from fractions import Fraction

MEASURES = ("misses", "shares")
NO_MEASURES = ("", " ", "miss", "share", "misse", "Misses", "SHARES", "misses ", " shares", "missesshares", "gini", "x")
COLUMNS = [("age", "number"), ("colour", "word"), ("size", "number"), ("shape", "word")]
WORDS = ("blue", "green", "red")
ANSWERS = ("maybe", "no", "yes")


def fraction(one):
    return Fraction(one[0], one[1])


def as_ratio(one):
    return (one.numerator, one.denominator)


def figures(many, seed):
    # A number of just so many figures, the same at every run.
    low = 10 ** (many - 1)
    return low + pow(seed, 3 * many) % (9 * low)


def some_group(seed, many, numbers=4, answers=3):
    # Few unlike values and answers, so that questions with the same drop come up often.
    chance = random.Random(seed)
    group = []
    for row in range(many):
        values = (
            chance.randrange(-numbers, numbers), chance.choice(WORDS), chance.randrange(numbers), chance.choice(WORDS),
        )
        group.append((values, ANSWERS[chance.randrange(answers)]))
    return group


def some_groups():
    return [some_group(seed, many) for many in (1, 2, 3, 5, 8, 13) for seed in range(12)]


def mess_by_hand(group, measure):
    # Reckoned from the rows themselves, another way than the program's.
    answers = [answer for values, answer in group]
    if not answers:
        return Fraction(0)
    if measure == "misses":
        return Fraction(min(len([one for one in answers if one != answer]) for answer in answers))
    unlike = len([1 for one in answers for other in answers if one != other])
    return Fraction(unlike, len(answers))


def end(cost):
    return ("end", (cost, 1))


def fork(cost, yes, no):
    return ("fork", (cost, 1), yes, no)


def costs_in_turn(costs):
    # One cost behind the other, and from the front again, for as many trees as are made.
    while True:
        yield from costs


def even_tree(many, costs):
    # So many forks, as flat as may be.
    own = next(costs)
    if many == 0:
        return ("end", own)
    left = (many - 1) // 2
    return ("fork", own, even_tree(left, costs), even_tree(many - 1 - left, costs))


def deep_tree(costs, sign="y"):
    # Sixty forks: a chain of twenty with smaller trees at its side, twenty deep in all.
    tree = ("end", next(costs))
    for step in range(20):
        side = even_tree(0 if step < 3 else 2 if step < 14 else 3, costs)
        if sign == "y":
            tree = ("fork", next(costs), tree, side)
        else:
            tree = ("fork", next(costs), side, tree)
    return tree


def shapes(many):
    # Every tree of just so many forks, without costs.
    if many == 0:
        return [None]
    told = []
    for left in range(many):
        told += [(yes, no) for yes in shapes(left) for no in shapes(many - 1 - left)]
    return told


def with_costs(shape, costs):
    own = next(costs)
    if shape is None:
        return ("end", own)
    return ("fork", own, with_costs(shape[0], costs), with_costs(shape[1], costs))


def trees_and_places(tree, place=""):
    told = [(place, tree)]
    if tree[0] == "fork":
        told += trees_and_places(tree[2], place + "y") + trees_and_places(tree[3], place + "n")
    return told


def all_prunings(tree, place=""):
    told = [[place]]
    if tree[0] == "fork":
        for yes in all_prunings(tree[2], place + "y"):
            told += [sorted(yes + no) for no in all_prunings(tree[3], place + "n")]
    return told


SMALL = fork(9, end(1), fork(5, fork(3, end(-2), end(0)), end(4)))
SMALL_PRUNINGS = ([""], ["n", "y"], ["nn", "ny", "y"], ["nn", "nyn", "nyy", "y"])
NO_PRUNINGS = (
    [], ["", ""], ["n"], ["y"], ["y", "n"], ["n", "n", "y"], ["n", "y", "y"], ["n", "y", "yy"], ["", "n", "y"],
    ["", "y"], ["n", "nn", "ny", "y"], ["nn", "y"], ["nn", "nyn", "y"], ["nn", "nyy", "y"], ["ny", "y"], ["nn", "ny"],
    ["ny", "nn", "y"], ["nn", "nyy", "nyn", "y"], ["nn", "ny", "nyn", "y"], ["x"], ["", "x"], ["N", "Y"], [" "],
    ["n", "y", "z"], ["no", "yes"], ["n", "y "], ["n", "yn", "yy"], ["y" * 40], ["nn", "nyn", "nyy", "y", "y" * 40],
    ["n n", "n", "y"], ["nnn", "nny", "ny", "y"],
)
PRICES = [(0, 1), (1, 3), (1, 2), (1, 1), (3, 2), (2, 1), (5, 2), (7, 1), (10 ** 30, 1)]
BELOW = [(-1, 1), (-1, 2), (-7, 3), (-1, 10 ** 2999), (-(10 ** 3000 - 1), 7)]


def counted_up():
    return costs_in_turn([as_ratio(Fraction(number * 7 % 31 - 9, 1 + number % 3)) for number in range(31)])


def with_gains(tree, gains):
    # Each fork costs more than both its trees, by one gain behind the other: prunings of many sizes are cheapest.
    if tree[0] == "end":
        return tree
    yes = with_gains(tree[2], gains)
    no = with_gains(tree[3], gains)
    return ("fork", as_ratio(fraction(yes[1]) + fraction(no[1]) + next(gains)), yes, no)


def large_trees():
    told = [even_tree(60, counted_up()), deep_tree(counted_up()), deep_tree(counted_up(), "n")]
    gains = itertools.cycle([Fraction(number * 11 % 37, 4) for number in range(37)])
    return told + [with_gains(tree, gains) for tree in told]


def small_trees():
    # Every shape of up to five forks, with costs of either sign, few unlike ones, so that ties come up often.
    chance = random.Random(7)
    told = []
    for many in range(6):
        for shape in shapes(many):
            for unlike in (2, 4, 9):
                costs = [as_ratio(Fraction(chance.randrange(-unlike, 2 * unlike), chance.choice((1, 1, 2, 3))))
                         for place in range(11)]
                told.append(with_costs(shape, iter(costs)))
    return told


def total_by_hand(tree, places, price):
    found = dict(trees_and_places(tree))
    return sum([fraction(found[place][1]) + fraction(price) for place in places], Fraction(0))


def least_by_hand(tree, price, place=""):
    # The least total, and of those that have it the pruning with the fewest places.
    own = (fraction(tree[1]) + fraction(price), 1, [place])
    if tree[0] == "end":
        return own
    yes = least_by_hand(tree[2], price, place + "y")
    no = least_by_hand(tree[3], price, place + "n")
    return min(own, (yes[0] + no[0], yes[1] + no[1], sorted(yes[2] + no[2])))


def large_costs(many):
    # Costs of so many figures, of either sign, for a tree of sixty forks.
    seeds = range(3, 124)
    return [as_ratio(Fraction(figures(many, seed) * (-1) ** seed, figures(many, seed + 1))) for seed in seeds]


def nudged(tree, many, seeds):
    # Each cost is raised by next to nothing, so that it has so many figures above and below.
    own = as_ratio(fraction(tree[1]) + Fraction(1, figures(many, next(seeds))))
    return (tree[0], own) + tuple(nudged(part, many, seeds) for part in tree[2:])


def rising_tree(base):
    # Each fork gains more than the ones made ahead of it: it is cut alone, and so the path has a step for each.
    return with_gains(base, itertools.count(1))


def cost_by_hand(tree, places):
    return total_by_hand(tree, places, (0, 1))


def link_by_hand(tree, places, fork):
    leaves = [place for place in places if place[:len(fork)] == fork]
    return (cost_by_hand(tree, [fork]) - cost_by_hand(tree, leaves)) / (len(leaves) - 1)


def path_by_hand(tree):
    # Another way than by links: the lines of cost and leaves are walked along, from one crossing to the next.
    places = least_by_hand(tree, (0, 1))[2]
    told = [((0, 1), places)]
    while places != [""]:
        own = cost_by_hand(tree, places)
        other = [""]
        while True:
            price = (cost_by_hand(tree, other) - own) / (len(places) - len(other))
            found = least_by_hand(tree, as_ratio(price))
            if found[0] == own + price * len(places):
                break
            other = found[2]
        places = found[2]
        told.append((as_ratio(price), places))
    return told


def prices_around(steps):
    # Each price told, right below and right above it, between two, and far behind the last one.
    tiny = Fraction(1, 10 ** 40)
    told = [fraction(step[0]) for step in steps]
    around = [one + add for one in told for add in (-tiny, 0, tiny) if one + add >= 0]
    around += [(one + other) / 2 for one, other in zip(told, told[1:])] + [told[-1] * 3 + 7]
    return [as_ratio(one) for one in sorted(set(around))]
