"""The curve of a costed tree: the least total of all prunings, told for every price."""

from prunepath.costs import trees_by_place
from prunepath.paths import last_not_above, path
from prunepath.prunings import cost_by_change
from prunepath.ratios import plus, times


def curve(tree):
    known = trees_by_place(tree)
    own = (0, 1)
    before = []
    told = []
    for price, places in path(tree):
        own = cost_by_change(known, own, before, places)
        told.append((price, own, len(places)))
        before = places
    return told


def least_at(told, price):
    found = last_not_above(told, price)
    return plus(found[1], times(price, (found[2], 1)))
