"""What several tests share: wrong measures, groups that are the same at every run, and ratios as fractions."""

import random
from fractions import Fraction

MEASURES = ("misses", "shares")
NO_MEASURES = ("", " ", "miss", "share", "misse", "Misses", "SHARES", "misses ", " shares", "missesshares", "gini", "x")
COLUMNS = [("age", "number"), ("colour", "word"), ("size", "number"), ("shape", "word")]
WORDS = ("blue", "green", "red")
ANSWERS = ("maybe", "no", "yes")


def fraction(one):
    return Fraction(one[0], one[1])


def as_ratio(one):
    return (one.numerator, one.denominator)


def some_group(seed, many, numbers=4, answers=3):
    # Few unlike values and answers, so that questions with the same drop come up often.
    chance = random.Random(seed)
    group = []
    for row in range(many):
        values = (
            chance.randrange(-numbers, numbers), chance.choice(WORDS), chance.randrange(numbers), chance.choice(WORDS),
        )
        group.append((values, ANSWERS[chance.randrange(answers)]))
    return group


def some_groups():
    return [some_group(seed, many) for many in (1, 2, 3, 5, 8, 13) for seed in range(12)]


def mess_by_hand(group, measure):
    # Reckoned from the rows themselves, another way than the program's.
    answers = [answer for values, answer in group]
    if not answers:
        return Fraction(0)
    if measure == "misses":
        return Fraction(min(len([one for one in answers if one != answer]) for answer in answers))
    unlike = len([1 for one in answers for other in answers if one != other])
    return Fraction(unlike, len(answers))
