"""What several test files use."""

import unittest
from fractions import Fraction
from math import gcd

from echofield.errors import BadText, EchoError, NoField, NoMoment, NoRecord, TooMany

REFUSALS = (NoField, NoMoment, NoRecord, TooMany, BadText)

NOUGHT = (0, 1)
ONE = (1, 1)
HALF = (1, 2)
THIRD = (1, 3)
TWELVE_FIGURES = 10 ** 12 - 1
EIGHT = [(1, bottom) for bottom in range(2, 10)]

# Bottoms of twelve figures, tops near nought, in between and near one.
LONG = [
    (1, 999999999989),
    (999999999960, 999999999961),
    (314159265358, 999999999959),
    (1, 10 ** 11 + 3),
    (271828182845, 999999999989),
    (10 ** 11, 10 ** 11 + 19),
    (123456789013, 500000000023),
    (2, 999999999937),
]

# Fields of 1, 2, 5 and 8 walls; walls that return nought, a half, all.
ROWS = [
    [NOUGHT],
    [HALF],
    [(3, 7)],
    [ONE],
    [HALF, THIRD],
    [NOUGHT, NOUGHT],
    [NOUGHT, HALF],
    [HALF, NOUGHT],
    [HALF, HALF],
    [HALF, ONE],
    [ONE, HALF],
    [ONE, ONE],
    [HALF] * 5,
    [HALF, NOUGHT, (2, 3), NOUGHT, HALF],
    [THIRD, (3, 4), HALF, (1, 7), (9, 10)],
    [NOUGHT, HALF, THIRD, ONE, (1, 5)],
    [HALF, THIRD, (1, 4), (1, 5), ONE],
    EIGHT,
    [NOUGHT] * 8,
    [HALF] * 8,
    [ONE] * 8,
    [HALF] * 7 + [ONE],
    [NOUGHT] * 7 + [ONE],
    [NOUGHT, HALF, NOUGHT, THIRD, NOUGHT, (3, 4), HALF, NOUGHT],
    [HALF, (2, 5), HALF, ONE, NOUGHT, HALF, ONE, HALF],
    LONG,
]


def value(part):
    return Fraction(part[0], part[1])


def part_of(number):
    return (number.numerator, number.denominator)


def total(parts):
    return sum([value(part) for part in parts], Fraction(0))


class Checking(unittest.TestCase):
    def assert_refused(self, kind, call, *handed_in):
        with self.assertRaises(kind) as caught:
            call(*handed_in)
        self.assertIsInstance(caught.exception, EchoError)
        self.assertIsInstance(caught.exception, ValueError)
        for other in REFUSALS:
            if other is not kind:
                self.assertNotIsInstance(caught.exception, other)

    def assert_fraction(self, part):
        self.assertIs(type(part), tuple)
        self.assertEqual([type(number) for number in part], [int, int])
        self.assertGreater(part[1], 0)
        self.assertEqual(gcd(part[0], part[1]), 1)

    def assert_fractions(self, parts):
        self.assertIs(type(parts), list)
        for part in parts:
            self.assert_fraction(part)
