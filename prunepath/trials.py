"""Trials: how a pruned tree answers, how many rows it misses, and which pruning is chosen for that."""

from prunepath.costs import costed
from prunepath.groups import commonest
from prunepath.paths import path
from prunepath.prunings import beginnings, check_pruning


def answer_pruned(node, places, values):
    # Just one place of a pruning is a beginning of the leaf's place.
    place = beginnings(node.place_of(values), places)[0]
    return commonest(node.at(place).counted)


def answer(node, places, values):
    # Whether places are a pruning hangs on the form of the tree alone, so any measure does.
    check_pruning(costed(node, "misses"), places)
    return answer_pruned(node, places, values)


def missed(node, places, group):
    return len([row for row in group if answer_pruned(node, places, row[0]) != row[1]])


def trial(node, measure, group):
    steps = path(costed(node, measure))
    return [(price, len(places), missed(node, places, group)) for price, places in steps]


def chosen(tried):
    found = 0
    for number, step in enumerate(tried):
        # The leaves fall, so of several with the fewest misses the last one has the fewest leaves.
        if step[2] <= tried[found][2]:
            found = number
    following = tried[found + 1][0] if found + 1 < len(tried) else None
    return (tried[found][0], following, tried[found][1], tried[found][2])
