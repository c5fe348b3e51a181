"""Forks inside a pruning, the price at which each would be cut, and cutting."""

from prunepath.costs import forks, trees_by_place
from prunepath.errors import NoPlace
from prunepath.prunings import beginnings, check_pruning
from prunepath.ratios import greatest_divisor, minus


def forks_inside(tree, places):
    return [place for place in forks(tree) if len(beginnings(place, places)) == 0]


def inside(tree, places):
    check_pruning(tree, places)
    return forks_inside(tree, places)


def shared_out(one, many):
    # Top and bottom share nothing, so only the top and the number can; to look through the whole takes far too
    # long where the top has very many figures.
    divisor = greatest_divisor(one[0], many)
    return (one[0] // divisor, one[1] * (many // divisor))


def link_inside(tree, places, fork):
    known = trees_by_place(tree)
    leaves = [place for place in places if place.startswith(fork)]
    dearer = known[fork][1]
    for place in leaves:
        dearer = minus(dearer, known[place][1])
    return shared_out(dearer, len(leaves) - 1)


def link(tree, places, fork):
    if fork not in inside(tree, places):
        raise NoPlace(fork)
    return link_inside(tree, places, fork)


def cut(places, places_of_forks):
    kept = [place for place in places if len(beginnings(place, places_of_forks)) == 0]
    # Each fork begins with itself; one that begins with another one, too, goes with that one.
    topmost = [place for place in places_of_forks if len(beginnings(place, places_of_forks)) == 1]
    return sorted(kept + topmost)
