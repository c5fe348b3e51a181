"""Groups of rows: the counts of their answers, and the mess of these by a measure."""

from prunepath.errors import NoMeasure
from prunepath.ratios import ratio

MEASURES = ("misses", "shares")


def check_measure(measure):
    if measure not in MEASURES:
        raise NoMeasure(f"no measure: {measure!r}")


def counts(group):
    found = {}
    for row in group:
        found[row[1]] = found.get(row[1], 0) + 1
    return [(answer, found[answer]) for answer in sorted(found)]


def commonest(counted):
    found = None
    greatest = 0
    for answer, many in counted:
        # Only a greater number takes the place, so that of several the first one stays.
        if many > greatest:
            found = answer
            greatest = many
    return found


def all_rows(counted):
    return sum([many for answer, many in counted])


def misses(counted):
    return all_rows(counted) - max([many for answer, many in counted], default=0)


def shares(counted):
    rows = all_rows(counted)
    if rows == 0:
        return ratio(0, 1)
    squares = sum([many * many for answer, many in counted])
    return ratio(rows * rows - squares, rows)


def mess(counted, measure):
    check_measure(measure)
    if measure == "misses":
        return ratio(misses(counted), 1)
    return shares(counted)
