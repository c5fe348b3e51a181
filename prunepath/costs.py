"""Costed trees: tuples ("end", cost) and ("fork", cost, tree for yes, tree for no)."""

from prunepath.errors import NoPlace
from prunepath.groups import mess
from prunepath.nodes import Fork


def costed(node, measure):
    own = mess(node.counted, measure)
    if isinstance(node, Fork):
        return ("fork", own, costed(node.yes, measure), costed(node.no, measure))
    return ("end", own)


def trees_by_place(tree):
    found = {}
    waiting = [("", tree)]
    while len(waiting) > 0:
        step = waiting.pop()
        place = step[0]
        part = step[1]
        found[place] = part
        if part[0] == "fork":
            waiting.append((place + "y", part[2]))
            waiting.append((place + "n", part[3]))
    return found


def places_of(tree, sort):
    return sorted([place for place, part in trees_by_place(tree).items() if part[0] == sort])


def forks(tree):
    return places_of(tree, "fork")


def ends(tree):
    return places_of(tree, "end")


def cost_at(tree, place):
    found = trees_by_place(tree)
    if place not in found:
        raise NoPlace(place)
    return found[place][1]
