"""The path of a costed tree: its best prunings, each from the price at which it takes over."""

from prunepath.costs import in_whole_costs, trees_by_place
from prunepath.links import cut, forks_inside, link_inside
from prunepath.prunings import cheapest, check_price
from prunepath.ratios import under


def sums_and_leaves(whole, places):
    # For each fork inside, and each leaf, what the leaves there cost together, and how many they are.
    known = trees_by_place(whole)
    found = {}
    for place in places:
        found[place] = (known[place][1], 1)
    # Sorted, a place stands ahead of those that begin with it; so both trees of a fork come ahead of it here.
    for place in reversed(forks_inside(whole, places)):
        yes = found[place + "y"]
        no = found[place + "n"]
        found[place] = (yes[0] + no[0], yes[1] + no[1])
    return found


def whole_links(whole, places):
    # A link here is a pair of a top and a bottom, not brought to lowest terms: it is only held against others.
    known = trees_by_place(whole)
    found = {}
    for place, both in sums_and_leaves(whole, places).items():
        if both[1] > 1:
            found[place] = (known[place][1] - both[0], both[1] - 1)
    return found


def least_linked(whole, places):
    links = whole_links(whole, places)
    least = links[""]
    for one in links.values():
        if under(one, least):
            least = one
    return [place for place, one in links.items() if not under(least, one)]


def path(tree):
    whole = in_whole_costs(tree)
    places = cheapest(tree, (0, 1))
    steps = [((0, 1), places)]
    while places != [""]:
        weakest = least_linked(whole, places)
        price = link_inside(tree, places, weakest[0])
        places = cut(places, weakest)
        steps.append((price, places))
    return steps


def last_not_above(steps, price):
    check_price(price)
    return [step for step in steps if not under(price, step[0])][-1]


def for_price(steps, price):
    return list(last_not_above(steps, price)[1])
