"""Ratios: tuples (top, bottom) in lowest terms, the bottom from 1 on."""

from roundglass.errors import NoRatio

NOUGHT = (0, 1)
ONE = (1, 1)


def is_whole(thing):
    # True and False are ints to Python, but no whole numbers here.
    return isinstance(thing, int) and not isinstance(thing, bool)


def divisor(one, other):
    while other != 0:
        one, other = other, one % other
    return one


def is_ratio(thing):
    if not isinstance(thing, tuple) or len(thing) != 2:
        return False
    top, bottom = thing
    if not is_whole(top) or not is_whole(bottom) or bottom < 1:
        return False
    return divisor(abs(top), bottom) == 1


def ratio(top, bottom=1):
    # The words name no number: Python does not write out numbers of very many figures.
    if not is_whole(top) or not is_whole(bottom) or bottom == 0:
        raise NoRatio("a ratio is made of two whole numbers, the second not 0")
    share = divisor(abs(top), abs(bottom))
    if bottom < 0:
        share = -share
    return (top // share, bottom // share)


def opposite(one):
    return (-one[0], one[1])


def unsigned(one):
    return (abs(one[0]), one[1])


def plus(one, other):
    return ratio(one[0] * other[1] + other[0] * one[1], one[1] * other[1])


def minus(one, other):
    return plus(one, opposite(other))


def times(one, other):
    return ratio(one[0] * other[0], one[1] * other[1])


def over(one, other):
    # By nought the bottom is 0, and ratio refuses that.
    return ratio(one[0] * other[1], one[1] * other[0])


def common_bottom(ratios):
    bottom = 1
    for one in ratios:
        bottom = bottom // divisor(bottom, one[1]) * one[1]
    return bottom


def tops_over(ratios, bottom):
    return [one[0] * (bottom // one[1]) for one in ratios]


def total(ratios):
    # To reduce behind each sum is far more work where the bottoms are great.
    bottom = common_bottom(ratios)
    return ratio(sum(tops_over(ratios, bottom)), bottom)


def less(one, other):
    # Bottoms are above 0, so taking both sides by them keeps the order.
    return one[0] * other[1] < other[0] * one[1]


def same(one, other):
    # Of tops and bottoms that need not be in lowest terms.
    return one[0] * other[1] == other[0] * one[1]


def floor_root(number):
    if number == 0:
        return 0
    # Newton's steps fall to the root only from above, so the first guess is a power of 2 beyond it.
    guess = 1
    for step in range((number.bit_length() + 1) // 2):
        guess = guess * 2
    better = (guess + number // guess) // 2
    while better < guess:
        guess = better
        better = (guess + number // guess) // 2
    return guess


def root(one):
    if one[0] < 0:
        return None
    # In lowest terms a ratio is a square just where its top and its bottom are.
    top = floor_root(one[0])
    bottom = floor_root(one[1])
    if top * top != one[0] or bottom * bottom != one[1]:
        return None
    return (top, bottom)
