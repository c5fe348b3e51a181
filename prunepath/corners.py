"""The corners of points of leaves and cost: which point is the best one, from which price on."""

from prunepath.ratios import minus, over, under


def even_price(fewer, more):
    # At it both come to the same; below it the point with more leaves is the better one.
    return over(minus(fewer[1], more[1]), (more[0] - fewer[0], 1))


def best_nowhere(last, price):
    # Below the price another point is better, and from its own end on the point beneath it is.
    end = last[1]
    return end is not None and not under(price, end)


def best_points(points):
    # Tuples (point, end): from the point ahead's end, or from 0, up to but without its own end each is the best.
    # The one with the fewest leaves stands first and has no end.
    kept = []
    for point in points:
        end = None
        while len(kept) > 0:
            end = even_price(kept[-1][0], point)
            if not best_nowhere(kept[-1], end):
                break
            kept.pop()
        if end is None or under((0, 1), end):
            kept.append((point, end))
    return kept


def corners(points):
    told = []
    price = (0, 1)
    for point, end in reversed(best_points(points)):
        told.append((price, point[0]))
        price = end
    return told
