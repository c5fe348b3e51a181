"""Prunings of a costed tree: lists of places, their cost and total, and the cheapest one at a price."""

from prunepath.costs import ends, trees_by_place
from prunepath.errors import NoPrice, NoPruning
from prunepath.ratios import plus, times, under


def beginnings(place, places):
    return [one for one in places if place.startswith(one)]


def is_pruning(tree, places):
    known = trees_by_place(tree)
    if not all([place in known for place in places]):
        return False
    if places != sorted(set(places)):
        return False
    return all([len(beginnings(end, places)) == 1 for end in ends(tree)])


def lies_in(one, other):
    return all([len(beginnings(place, one)) > 0 for place in other])


def check_price(price):
    if under(price, (0, 1)):
        raise NoPrice(price)


def cost(tree, places):
    if not is_pruning(tree, places):
        raise NoPruning("these places are no pruning of the tree")
    known = trees_by_place(tree)
    told = (0, 1)
    for place in places:
        told = plus(told, known[place][1])
    return told


def total(tree, places, price):
    check_price(price)
    return plus(cost(tree, places), times(price, (len(places), 1)))


def unreduced_sum(one, other):
    # These totals are only held against one another; to bring large ones to lowest terms takes long.
    return (one[0] * other[1] + other[0] * one[1], one[1] * other[1])


def cheapest_with_total(tree, price):
    own = unreduced_sum(tree[1], price)
    if tree[0] == "end":
        return ([""], own)
    yes = cheapest_with_total(tree[2], price)
    no = cheapest_with_total(tree[3], price)
    both = unreduced_sum(yes[1], no[1])
    if under(both, own):
        return (["n" + place for place in no[0]] + ["y" + place for place in yes[0]], both)
    return ([""], own)


def cheapest(tree, price):
    check_price(price)
    return cheapest_with_total(tree, price)[0]


def how_many(tree):
    if tree[0] == "end":
        return 1
    # The fork's own place, or a pruning for yes beside one for no.
    return 1 + how_many(tree[2]) * how_many(tree[3])
