"""The corners of points of leaves and cost: which point is the best one, from which price on."""

from prunepath.ratios import minus, over, under


def even_price(fewer, more):
    # At it both come to the same; below it the point with more leaves is the better one.
    return over(minus(fewer[1], more[1]), (more[0] - fewer[0], 1))


def best_nowhere(last, price):
    # Below the price the new point is better than the last one, and from the last one's end on the one ahead of it is.
    end = last[1]
    return end is not None and not under(price, end)


def best_points(points):
    # Tuples (point, end), the leaves rising: each is the best from the end of the one behind it on (the last one from
    # 0 on), up to but without its own end; the first one has no end.
    kept = []
    for point in points:
        end = None
        while len(kept) > 0:
            end = even_price(kept[-1][0], point)
            if not best_nowhere(kept[-1], end):
                break
            kept.pop()
        if end is None or under((0, 1), end):
            kept.append((point, end))
    return kept


def corners(points):
    told = []
    price = (0, 1)
    for point, end in reversed(best_points(points)):
        told.append((price, point[0]))
        price = end
    return told
