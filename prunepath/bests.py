"""The drop that a question brings, and the best question for a group."""

from prunepath.groups import check_measure, counts, mess
from prunepath.questions import parted, questions
from prunepath.ratios import minus, plus, under


def mess_of(group, measure):
    return mess(counts(group), measure)


def drop_by_parts(group, parts, measure):
    left = plus(mess_of(parts[0], measure), mess_of(parts[1], measure))
    return minus(mess_of(group, measure), left)


def drop(question, group, measure):
    check_measure(measure)
    return drop_by_parts(group, parted(question, group), measure)


def best(columns, group, measure, least=1):
    # A group without questions has no mess to reckon, and the measure is refused there, too.
    check_measure(measure)
    found = None
    greatest = (0, 1)
    for question in questions(columns, group):
        parts = parted(question, group)
        if len(parts[0]) >= least and len(parts[1]) >= least:
            dropped = drop_by_parts(group, parts, measure)
            # Only a greater drop takes the place, so that of several the first question stays.
            if under(greatest, dropped):
                found = (question, dropped)
                greatest = dropped
    return found
