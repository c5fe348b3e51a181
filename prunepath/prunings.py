"""Prunings of a costed tree: lists of places, their cost and total, and the cheapest one at a price."""

from prunepath.costs import ends, trees_by_place
from prunepath.errors import NoPrice, NoPruning
from prunepath.ratios import minus, plus, times, under


def beginnings(place, places):
    return [one for one in places if place.startswith(one)]


def is_pruning(tree, places):
    known = trees_by_place(tree)
    if not all([place in known for place in places]):
        return False
    if places != sorted(set(places)):
        return False
    return all([len(beginnings(end, places)) == 1 for end in ends(tree)])


def lies_in(one, other):
    return all([len(beginnings(place, one)) > 0 for place in other])


def check_price(price):
    if under(price, (0, 1)):
        raise NoPrice(price)


def check_pruning(tree, places):
    if not is_pruning(tree, places):
        raise NoPruning("these places are no pruning of the tree")


def cost_by_change(known, own, before, places):
    # From one pruning to another one often few leaves change; to add up all costs anew takes long where they
    # have many figures.
    for place in sorted(set(before) - set(places)):
        own = minus(own, known[place][1])
    for place in sorted(set(places) - set(before)):
        own = plus(own, known[place][1])
    return own


def cost(tree, places):
    check_pruning(tree, places)
    return cost_by_change(trees_by_place(tree), (0, 1), [], places)


def total(tree, places, price):
    check_price(price)
    return plus(cost(tree, places), times(price, (len(places), 1)))


def unreduced_sum(one, other):
    # These sums are only held against others; to bring large ones to lowest terms takes long.
    return (one[0] * other[1] + other[0] * one[1], one[1] * other[1])


def cheapest_with_cost(tree, price):
    if tree[0] == "end":
        return ([""], tree[1])
    yes = cheapest_with_cost(tree[2], price)
    no = cheapest_with_cost(tree[3], price)
    places = ["n" + place for place in no[0]] + ["y" + place for place in yes[0]]
    both = unreduced_sum(yes[1], no[1])
    # One price falls to either side: what is held against the fork's cost has a price for each leaf but one.
    spared = (price[0] * (len(places) - 1), price[1])
    if under(unreduced_sum(both, spared), tree[1]):
        return (places, both)
    return ([""], tree[1])


def cheapest(tree, price):
    check_price(price)
    return cheapest_with_cost(tree, price)[0]


def how_many(tree):
    if tree[0] == "end":
        return 1
    # The fork's own place, or a pruning for yes beside one for no.
    return 1 + how_many(tree[2]) * how_many(tree[3])
