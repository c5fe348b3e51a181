"""Costed trees: tuples ("end", cost) and ("fork", cost, tree for yes, tree for no)."""

from prunepath.errors import NoPlace
from prunepath.groups import mess
from prunepath.nodes import Fork
from prunepath.ratios import greatest_divisor


def costed(node, measure):
    own = mess(node.counted, measure)
    if isinstance(node, Fork):
        return ("fork", own, costed(node.yes, measure), costed(node.no, measure))
    return ("end", own)


def trees_by_place(tree):
    found = {}
    waiting = [("", tree)]
    while len(waiting) > 0:
        step = waiting.pop()
        place = step[0]
        part = step[1]
        found[place] = part
        if part[0] == "fork":
            waiting.append((place + "y", part[2]))
            waiting.append((place + "n", part[3]))
    return found


def places_of(tree, sort):
    return sorted([place for place, part in trees_by_place(tree).items() if part[0] == sort])


def forks(tree):
    return places_of(tree, "fork")


def ends(tree):
    return places_of(tree, "end")


def cost_at(tree, place):
    found = trees_by_place(tree)
    if place not in found:
        raise NoPlace(place)
    return found[place][1]


def common_bottom(tree):
    shared = 1
    for part in trees_by_place(tree).values():
        bottom = part[1][1]
        shared = shared * (bottom // greatest_divisor(shared, bottom))
    return shared


def lifted(tree, bottom):
    lift = bottom // tree[1][1]
    if tree[0] == "fork":
        return ("fork", tree[1][0] * lift, lifted(tree[2], bottom), lifted(tree[3], bottom))
    return ("end", tree[1][0] * lift)


def in_whole_costs(tree):
    # Over one bottom for all, costs can be added up and held against one another as whole numbers; as ratios of
    # very many figures that would take far too long.
    return lifted(tree, common_bottom(tree))
