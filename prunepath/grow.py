"""Growing a tree of questions on a group."""

from prunepath.bests import best
from prunepath.groups import check_measure, counts
from prunepath.nodes import Fork, Leaf
from prunepath.questions import parted


def grow(columns, group, measure="shares", deepest=20, least=1):
    # Where the tree may go no deeper no question is looked for, and the measure is refused there, too.
    check_measure(measure)
    counted = counts(group)
    if deepest < 1:
        return Leaf(counted)
    found = best(columns, group, measure, least)
    if found is None:
        return Leaf(counted)
    parts = parted(found[0], group)
    yes = grow(columns, parts[0], measure, deepest - 1, least)
    no = grow(columns, parts[1], measure, deepest - 1, least)
    return Fork(counted, found[0], yes, no)
