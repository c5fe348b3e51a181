"""The ladder of a costed tree: for each number of leaves a pruning with the least cost."""

from prunepath.costs import in_whole_costs, trees_by_place
from prunepath.prunings import cost_by_change


def best_pair(yes, no, leaves):
    # Each tree has one leaf at least, and no more than it has prunings told.
    fewest = max(1, leaves - len(no))
    most = min(len(yes), leaves - 1)
    pairs = [(yes[many - 1][0] + no[leaves - many - 1][0], many) for many in range(fewest, most + 1)]
    found = min(pairs)
    places = ["n" + place for place in no[leaves - found[1] - 1][1]]
    places.extend(["y" + place for place in yes[found[1] - 1][1]])
    return (found[0], places)


def rungs(whole):
    # One tuple (cost, pruning) for each number of leaves from 1 on.
    told = [(whole[1], [""])]
    if whole[0] == "fork":
        yes = rungs(whole[2])
        no = rungs(whole[3])
        for leaves in range(2, len(yes) + len(no) + 1):
            told.append(best_pair(yes, no, leaves))
    return told


def ladder(tree):
    known = trees_by_place(tree)
    own = (0, 1)
    before = []
    told = []
    for rung in rungs(in_whole_costs(tree)):
        places = rung[1]
        own = cost_by_change(known, own, before, places)
        told.append((len(places), own, places))
        before = places
    return told
