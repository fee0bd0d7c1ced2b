import itertools
import unittest
from fractions import Fraction

from echofield.errors import NoMoment
from echofield.fields import Field, joined, turned
from echofield.sounds import going, heard, in_all, lost
from helper import EIGHT, HALF, LONG, NOUGHT, ONE, ROWS, THIRD, TWELVE_FIGURES, Checking, part_of, total, value

MOMENTS = (0, 1, 2, 12, 40)
NO_MOMENTS = (-1, 41, -2, 42, 100, -40, 10 ** 9, -(10 ** 9), 10 ** 5000, -(10 ** 5000))


class Told:
    """Point [4] word by word, cell by cell, with Python's own fractions."""

    def __init__(self, walls, moment):
        self.parts = [value(wall) for wall in walls]
        self.last = len(walls)
        self.right = [Fraction(1)] + [Fraction(0)] * self.last
        self.left = [Fraction(0)] * (self.last + 1)
        self.heard = []
        self.lost = []
        for _ in range(moment):
            self.go_on()

    def go_on(self):
        right = [Fraction(0)] * (self.last + 1)
        left = [Fraction(0)] * (self.last + 1)
        for cell in range(self.last + 1):
            if cell == self.last:
                self.lost.append(self.right[cell])
            else:
                left[cell] += self.right[cell] * self.parts[cell]
                right[cell + 1] += self.right[cell] * (1 - self.parts[cell])
            if cell == 0:
                self.heard.append(self.left[cell])
            else:
                right[cell] += self.left[cell] * self.parts[cell - 1]
                left[cell - 1] += self.left[cell] * (1 - self.parts[cell - 1])
        self.right = right
        self.left = left


def parts_of(numbers):
    return [part_of(number) for number in numbers]


class ByHand(unittest.TestCase):
    def setUp(self):
        self.field = Field([HALF, THIRD])

    def test_what_goes(self):
        self.assertEqual(going(self.field, 0), ([ONE, NOUGHT, NOUGHT], [NOUGHT] * 3))
        self.assertEqual(going(self.field, 1), ([NOUGHT, HALF, NOUGHT], [HALF, NOUGHT, NOUGHT]))
        self.assertEqual(going(self.field, 2), ([NOUGHT, NOUGHT, THIRD], [NOUGHT, (1, 6), NOUGHT]))
        self.assertEqual(going(self.field, 3), ([NOUGHT, (1, 12), NOUGHT], [(1, 12), NOUGHT, NOUGHT]))
        self.assertEqual(going(self.field, 4), ([NOUGHT, NOUGHT, (1, 18)], [NOUGHT, (1, 36), NOUGHT]))

    def test_what_is_heard(self):
        self.assertEqual(heard(self.field, 0), [])
        self.assertEqual(heard(self.field, 1), [NOUGHT])
        self.assertEqual(heard(self.field, 2), [NOUGHT, HALF])
        self.assertEqual(heard(self.field, 6), [NOUGHT, HALF, NOUGHT, (1, 12), NOUGHT, (1, 72)])

    def test_what_is_lost(self):
        self.assertEqual(lost(self.field, 0), [])
        self.assertEqual(lost(self.field, 2), [NOUGHT, NOUGHT])
        self.assertEqual(lost(self.field, 5), [NOUGHT, NOUGHT, THIRD, NOUGHT, (1, 18)])

    def test_a_wall_that_returns_nought(self):
        field = Field([NOUGHT])
        self.assertEqual(going(field, 1), ([NOUGHT, ONE], [NOUGHT, NOUGHT]))
        self.assertEqual(going(field, 2), ([NOUGHT] * 2, [NOUGHT] * 2))
        self.assertEqual(heard(field, 3), [NOUGHT] * 3)
        self.assertEqual(lost(field, 3), [NOUGHT, ONE, NOUGHT])

    def test_a_wall_that_returns_all(self):
        field = Field([ONE])
        self.assertEqual(going(field, 1), ([NOUGHT] * 2, [ONE, NOUGHT]))
        self.assertEqual(going(field, 2), ([NOUGHT] * 2, [NOUGHT] * 2))
        self.assertEqual(heard(field, 3), [NOUGHT, ONE, NOUGHT])
        self.assertEqual(lost(field, 3), [NOUGHT] * 3)


def each(moments=MOMENTS):
    return [(walls, Field(walls), moment) for walls in ROWS for moment in moments]


class Moments(Checking):
    def test_as_the_document_tells(self):
        for walls, field, moment in each():
            with self.subTest(walls=walls, moment=moment):
                told = Told(walls, moment)
                self.assertEqual(going(field, moment), (parts_of(told.right), parts_of(told.left)))
                self.assertEqual(heard(field, moment), parts_of(told.heard))
                self.assertEqual(lost(field, moment), parts_of(told.lost))

    def test_at_moment_nought(self):
        for walls, field, moment in each((0,)):
            cells = len(walls) + 1
            with self.subTest(walls=walls):
                self.assertEqual(going(field, moment), ([ONE] + [NOUGHT] * (cells - 1), [NOUGHT] * cells))
                self.assertEqual(heard(field, moment), [])
                self.assertEqual(lost(field, moment), [])

    def test_kinds_and_lengths(self):
        for walls, field, moment in each():
            with self.subTest(walls=walls, moment=moment):
                answer = going(field, moment)
                self.assertIs(type(answer), tuple)
                self.assertEqual([len(row) for row in answer], [len(walls) + 1] * 2)
                for row in answer:
                    self.assert_fractions(row)
                for row in (heard(field, moment), lost(field, moment)):
                    self.assertEqual(len(row), moment)
                    self.assert_fractions(row)

    def test_all_comes_to_one(self):
        for walls, field, moment in each(range(41)):
            with self.subTest(walls=walls, moment=moment):
                right, left = going(field, moment)
                self.assertEqual(total(right + left + heard(field, moment) + lost(field, moment)), 1)

    def test_at_odd_moments_nothing_is_heard(self):
        for walls, field, moment in each((1, 12, 39, 40)):
            with self.subTest(walls=walls, moment=moment):
                self.assertEqual(set(heard(field, moment)[::2]), {NOUGHT})

    def test_an_earlier_moment_tells_the_beginning(self):
        for walls, field, moment in each(range(41)):
            with self.subTest(walls=walls, moment=moment):
                self.assertEqual(heard(field, moment), heard(field, 40)[:moment])
                self.assertEqual(lost(field, moment), lost(field, 40)[:moment])

    def test_other_moments_are_refused(self):
        for walls, field, moment in each(NO_MOMENTS):
            for call in (going, heard, lost):
                # A number of thousands of figures can't be shown.
                with self.subTest(walls=walls, bits=moment.bit_length(), call=call.__name__):
                    self.assert_refused(NoMoment, call, field, moment)


class TheAskersOwn(unittest.TestCase):
    def test_what_goes_may_be_changed(self):
        for walls in ROWS:
            for moment in MOMENTS:
                with self.subTest(walls=walls, moment=moment):
                    field = Field(walls)
                    before = going(field, moment)
                    right, left = going(field, moment)
                    self.assertIsNot(right, left)
                    right[0] = (5, 7)
                    right.append(HALF)
                    self.assertEqual(left, before[1])
                    left.clear()
                    self.assertEqual(going(field, moment), before)
                    self.assertEqual(field.walls(), walls)

    def test_what_is_heard_and_lost_may_be_changed(self):
        for call in (heard, lost):
            for walls in ROWS:
                for moment in MOMENTS:
                    with self.subTest(call=call.__name__, walls=walls, moment=moment):
                        field = Field(walls)
                        before = list(call(field, moment))
                        told = call(field, moment)
                        told.append(HALF)
                        told[0] = (5, 7)
                        self.assertEqual(call(field, moment), before)
                        self.assertEqual(field.walls(), walls)

    def test_the_walls_handed_in_may_be_changed_later(self):
        walls = [HALF, THIRD]
        field = Field(walls)
        walls.clear()
        self.assertEqual(heard(field, 4), [NOUGHT, HALF, NOUGHT, (1, 12)])
        self.assertEqual(in_all(field), ((3, 5), (2, 5)))


class InAll(Checking):
    def test_by_hand(self):
        self.assertEqual(in_all(Field([HALF])), (HALF, HALF))
        self.assertEqual(in_all(Field([HALF, THIRD])), ((3, 5), (2, 5)))
        self.assertEqual(in_all(Field([NOUGHT])), (NOUGHT, ONE))
        self.assertEqual(in_all(Field([NOUGHT] * 8)), (NOUGHT, ONE))
        self.assertEqual(in_all(Field([HALF] * 8)), ((8, 9), (1, 9)))
        self.assertEqual(in_all(Field([(9, 10), NOUGHT, HALF])), ((10, 11), (1, 11)))

    def test_one_wall_is_heard_by_its_part(self):
        for wall in EIGHT + LONG:
            with self.subTest(wall=wall):
                self.assertEqual(in_all(Field([wall])), (wall, part_of(1 - value(wall))))

    def test_with_a_wall_that_returns_all(self):
        for count in range(1, 9):
            for place in range(count):
                for other in (NOUGHT, HALF, ONE, LONG[0]):
                    walls = [other] * count
                    walls[place] = ONE
                    with self.subTest(walls=walls):
                        self.assertEqual(in_all(Field(walls)), (ONE, NOUGHT))

    def test_by_the_bars(self):
        for walls in ROWS:
            if ONE in walls:
                continue
            with self.subTest(walls=walls):
                bars = sum(value(wall) / (1 - value(wall)) for wall in walls)
                answer = in_all(Field(walls))
                self.assertEqual(answer, (part_of(bars / (1 + bars)), part_of(1 / (1 + bars))))
                self.assertIs(type(answer), tuple)
                self.assert_fractions(list(answer))

    def test_bottoms_of_twelve_figures(self):
        self.assertEqual(
            in_all(Field([(TWELVE_FIGURES - 1, TWELVE_FIGURES)] * 8)),
            ((8 * (TWELVE_FIGURES - 1), 8 * TWELVE_FIGURES - 7), (1, 8 * TWELVE_FIGURES - 7)),
        )
        self.assertEqual(total(in_all(Field(LONG))), 1)

    def test_another_order_of_the_walls(self):
        for walls in ([HALF, THIRD, NOUGHT, (3, 4)], [HALF, ONE, (2, 5)], LONG[:4]):
            for order in itertools.permutations(walls):
                with self.subTest(order=order):
                    self.assertEqual(in_all(Field(list(order))), in_all(Field(walls)))

    def test_what_is_heard_till_a_moment(self):
        for walls in ROWS:
            field = Field(walls)
            in_time = total(in_all(field)[:1])
            told = heard(field, 40)
            for moment in range(41):
                with self.subTest(walls=walls, moment=moment):
                    right, left = going(field, moment)
                    till = total(told[:moment])
                    self.assertLessEqual(till, in_time)
                    self.assertGreaterEqual(till, in_time - total(right + left))

    def test_the_field_stays(self):
        for walls in ROWS:
            field = Field(walls)
            in_all(field)
            self.assertEqual(field.walls(), walls)


class FromTheOtherEnd(unittest.TestCase):
    def test_what_is_lost_is_the_same(self):
        for walls in ROWS:
            with self.subTest(walls=walls):
                self.assertEqual(lost(Field(walls), 40), lost(turned(Field(walls)), 40))

    def test_what_is_heard_need_not_be(self):
        field = Field([HALF, THIRD])
        self.assertNotEqual(heard(field, 4), heard(turned(field), 4))

    def test_so_with_fields_that_are_joined(self):
        for first, second in itertools.product(ROWS, ROWS):
            if len(first) + len(second) > 8:
                continue
            with self.subTest(first=first, second=second):
                one = Field(first)
                other = Field(second)
                there = joined(one, other)
                back = joined(turned(other), turned(one))
                self.assertEqual(lost(there, 40), lost(back, 40))
                self.assertEqual(lost(there, 40), parts_of(Told(first + second, 40).lost))


if __name__ == "__main__":
    unittest.main()
