"""Ratios: tuples (top, bottom) in lowest terms, the bottom from 1 on."""

from prunepath.errors import NoRatio
from prunepath.wholes import is_whole


def greatest_divisor(one, other):
    larger = abs(one)
    smaller = abs(other)
    while smaller != 0:
        rest = larger % smaller
        larger = smaller
        smaller = rest
    return larger


def ratio(top, bottom):
    if not is_whole(top) or not is_whole(bottom):
        raise NoRatio("a ratio is made of two whole numbers")
    if bottom == 0:
        raise NoRatio("the bottom of a ratio is not 0")
    divisor = greatest_divisor(top, bottom)
    if bottom < 0:
        # Dividing by it turns both signs, so that the bottom comes out above 0.
        divisor = -divisor
    return (top // divisor, bottom // divisor)


def plus(one, other):
    # Both are in lowest terms, so their sum can be divided by nothing but what the bottoms share;
    # to look for it in the whole sum takes far too long where many large ratios are added up.
    shared = greatest_divisor(one[1], other[1])
    lift = other[1] // shared
    top = one[0] * lift + other[0] * (one[1] // shared)
    divisor = greatest_divisor(top, shared)
    return (top // divisor, one[1] // divisor * lift)


def minus(one, other):
    return plus(one, (-other[0], other[1]))


def times(one, other):
    return ratio(one[0] * other[0], one[1] * other[1])


def over(one, other):
    # Where the other one is 0 the bottom comes to 0, and ratio refuses it.
    return ratio(one[0] * other[1], one[1] * other[0])


def amid(one, other):
    return ratio(one[0] * other[1] + other[0] * one[1], 2 * one[1] * other[1])


def under(one, other):
    # Both bottoms are above 0, so the products stand to each other as the ratios do.
    return one[0] * other[1] < other[0] * one[1]
