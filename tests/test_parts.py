import unittest
from fractions import Fraction
from math import gcd

from echofield.parts import minus, over, plus, times

MOST = 10 ** 60 - 1


def fraction(top, bottom):
    value = Fraction(top, bottom)
    return (value.numerator, value.denominator)


SMALL = sorted({fraction(top, bottom) for top in range(-6, 7) for bottom in range(1, 7)})

# Up to 60 figures above and below, with and without divisors in common.
LARGE = [
    (0, 1),
    (1, 1),
    (-1, 1),
    (MOST, 1),
    (-MOST, 1),
    (1, MOST),
    (-1, MOST),
    (MOST, MOST - 1),
    (MOST - 1, MOST),
    (1 - MOST, MOST),
    fraction(2 ** 199, 3 ** 125),
    fraction(-(3 ** 125), 2 ** 199),
    fraction(6 ** 76, 35 ** 38),
    fraction(-(10 ** 59), 7 ** 70),
]


class Sums(unittest.TestCase):
    def test_plus(self):
        self.assertEqual(plus((1, 2), (1, 3)), (5, 6))
        self.assertEqual(plus((1, 6), (1, 3)), (1, 2))
        self.assertEqual(plus((-1, 2), (1, 3)), (-1, 6))
        self.assertEqual(plus((-1, 2), (-1, 2)), (-1, 1))

    def test_minus(self):
        self.assertEqual(minus((1, 2), (1, 3)), (1, 6))
        self.assertEqual(minus((1, 3), (1, 2)), (-1, 6))
        self.assertEqual(minus((5, 6), (1, 3)), (1, 2))
        self.assertEqual(minus((1, 2), (-1, 2)), (1, 1))

    def test_nought_is_nought_over_one(self):
        for part in SMALL + LARGE:
            with self.subTest(part=part):
                self.assertEqual(plus(part, (-part[0], part[1])), (0, 1))
                self.assertEqual(minus(part, part), (0, 1))

    def test_nought_changes_nothing(self):
        for part in SMALL + LARGE:
            with self.subTest(part=part):
                self.assertEqual(plus(part, (0, 1)), part)
                self.assertEqual(plus((0, 1), part), part)
                self.assertEqual(minus(part, (0, 1)), part)


class Products(unittest.TestCase):
    def test_times(self):
        self.assertEqual(times((2, 3), (3, 4)), (1, 2))
        self.assertEqual(times((-2, 3), (3, 4)), (-1, 2))
        self.assertEqual(times((-2, 3), (-3, 2)), (1, 1))
        self.assertEqual(times((0, 1), (-3, 7)), (0, 1))
        self.assertEqual(times((-3, 7), (0, 1)), (0, 1))

    def test_over(self):
        self.assertEqual(over((1, 2), (3, 4)), (2, 3))
        self.assertEqual(over((3, 7), (3, 7)), (1, 1))
        self.assertEqual(over((0, 1), (3, 4)), (0, 1))

    def test_over_a_fraction_below_nought(self):
        self.assertEqual(over((1, 2), (-3, 4)), (-2, 3))
        self.assertEqual(over((-1, 2), (-3, 4)), (2, 3))
        self.assertEqual(over((0, 1), (-3, 4)), (0, 1))
        self.assertEqual(over((1, 1), (-1, 1)), (-1, 1))


class AgainstPython(unittest.TestCase):
    def assert_fraction(self, answer, value):
        self.assertIs(type(answer), tuple)
        self.assertEqual([type(number) for number in answer], [int, int])
        self.assertGreater(answer[1], 0)
        self.assertEqual(gcd(answer[0], answer[1]), 1)
        self.assertEqual(answer, (value.numerator, value.denominator))

    def check(self, one, other):
        left = Fraction(one[0], one[1])
        right = Fraction(other[0], other[1])
        with self.subTest(one=one, other=other):
            self.assert_fraction(plus(one, other), left + right)
            self.assert_fraction(minus(one, other), left - right)
            self.assert_fraction(times(one, other), left * right)
            if right != 0:
                self.assert_fraction(over(one, other), left / right)

    def check_all(self, parts):
        for one in parts:
            for other in parts:
                self.check(one, other)

    def test_small_ones(self):
        self.check_all(SMALL)

    def test_up_to_sixty_figures(self):
        for part in LARGE:
            self.assertLessEqual(max(abs(part[0]), part[1]), MOST)
        self.check_all(LARGE)

    def test_somewhat_beyond_sixty_figures(self):
        self.check_all([(10 ** 70 + 1, 10 ** 70), (-(10 ** 70), 10 ** 70 + 1), (1, 10 ** 80)])


if __name__ == "__main__":
    unittest.main()
