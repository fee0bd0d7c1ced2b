"""Fractions: tuples (top, bottom) in lowest terms, bottom above nought."""


def common_divisor(one, other):
    while other != 0:
        rest = one % other
        one = other
        other = rest
    return one


def common_bottom(fractions):
    bottom = 1
    for fraction in fractions:
        bottom = bottom // common_divisor(bottom, fraction[1]) * fraction[1]
    return bottom


def lowest(top, bottom):
    # A quotient by a fraction below nought comes here with its sign below.
    if bottom < 0:
        top = -top
        bottom = -bottom
    divisor = common_divisor(abs(top), bottom)
    return (top // divisor, bottom // divisor)


def plus(one, other):
    return lowest(one[0] * other[1] + other[0] * one[1], one[1] * other[1])


def minus(one, other):
    return lowest(one[0] * other[1] - other[0] * one[1], one[1] * other[1])


def times(one, other):
    return lowest(one[0] * other[0], one[1] * other[1])


def over(one, other):
    return lowest(one[0] * other[1], one[1] * other[0])
