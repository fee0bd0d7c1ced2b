import itertools
import unittest
from fractions import Fraction

from echofield.errors import NoRecord
from echofield.fields import Field
from echofield.sounds import heard
from echofield.told import told_by
from helper import EIGHT, HALF, LONG, NOUGHT, ONE, ROWS, THIRD, Checking, part_of, value

MOST = 10 ** 60 - 1
PRIME = 2 ** 521 - 1


def record_of(walls):
    return heard(Field(walls), 2 * len(walls))


def told_walls(walls):
    """The walls as told: noughts behind the first one that returns all."""
    if ONE not in walls:
        return walls
    heard_of = walls.index(ONE) + 1
    return walls[:heard_of] + [NOUGHT] * (len(walls) - heard_of)


def with_noughts(strengths):
    record = []
    for strength in strengths:
        record = record + [NOUGHT, strength]
    return record


def residue(part):
    return part[0] * pow(part[1], -1, PRIME) % PRIME


def heard_residues(walls):
    """What is heard at the moments 1 to 2n, counted by a prime: exact fractions would grow too long."""
    parts = [residue(wall) for wall in walls]
    right = [1] + [0] * len(walls)
    left = [0] * (len(walls) + 1)
    told = []
    for _ in range(2 * len(walls)):
        told.append(left[0])
        further_left = [right[k] * p + left[k + 1] * (1 - p) for k, p in enumerate(parts)]
        further_right = [right[k] * (1 - p) + left[k + 1] * p for k, p in enumerate(parts)]
        left = [number % PRIME for number in further_left] + [0]
        right = [0] + [number % PRIME for number in further_right]
    return told


class Heard(Checking):
    def check(self, walls):
        with self.subTest(walls=walls):
            told = told_by(record_of(walls))
            self.assertEqual(told, told_walls(walls))
            self.assert_fractions(told)

    def test_by_hand(self):
        self.assertEqual(told_by([NOUGHT, HALF]), [HALF])
        self.assertEqual(told_by([NOUGHT, NOUGHT]), [NOUGHT])
        self.assertEqual(told_by([NOUGHT, ONE]), [ONE])
        self.assertEqual(told_by([NOUGHT, HALF, NOUGHT, (1, 12)]), [HALF, THIRD])
        self.assertEqual(told_by([NOUGHT, HALF, NOUGHT, (1, 12), NOUGHT, (1, 72)]), [HALF, THIRD, NOUGHT])
        self.assertEqual(told_by([NOUGHT, HALF, NOUGHT, (1, 4), NOUGHT, (1, 8)]), [HALF, ONE, NOUGHT])

    def test_one_to_eight_walls(self):
        for count in range(1, 9):
            self.check(EIGHT[:count])
            self.check([HALF] * count)
            self.check([NOUGHT] * count)
            self.check([ONE] * count)
            self.check(LONG[:count])

    def test_the_rows(self):
        for walls in ROWS:
            self.check(walls)

    def test_a_wall_of_nought_or_all_at_each_place(self):
        for count in range(1, 9):
            for place in range(count):
                for wall in (NOUGHT, ONE):
                    walls = EIGHT[:count]
                    walls[place] = wall
                    self.check(walls)

    def test_small_fields(self):
        for count in (1, 2, 3, 4):
            for walls in itertools.product((NOUGHT, THIRD, HALF, ONE), repeat=count):
                self.check(list(walls))

    def test_behind_a_wall_that_returns_all_are_noughts(self):
        self.assertEqual(told_by(record_of([ONE, HALF, ONE, THIRD])), [ONE] + [NOUGHT] * 3)
        self.assertEqual(told_by(record_of([HALF, ONE, HALF, THIRD])), [HALF, ONE, NOUGHT, NOUGHT])
        self.assertEqual(told_by(record_of([HALF, THIRD, NOUGHT, ONE])), [HALF, THIRD, NOUGHT, ONE])


class NotHeard(unittest.TestCase):
    def test_something_heard_at_an_odd_moment(self):
        for count in range(1, 9):
            for walls in (EIGHT[:count], [NOUGHT] * count, [ONE] * count):
                for place in range(0, 2 * count, 2):
                    for strength in (HALF, ONE, (1, MOST), (MOST, 1)):
                        record = record_of(walls)
                        record[place] = strength
                        with self.subTest(record=record):
                            self.assertIsNone(told_by(record))

    def test_too_much_heard(self):
        for count in range(1, 8):
            for strength in (ONE, (2, 1), (3, 2), (MOST, 1)):
                record = record_of([HALF] + EIGHT[:count])
                record[-1] = strength
                with self.subTest(record=record):
                    self.assertIsNone(told_by(record))
        self.assertIsNone(told_by([NOUGHT, (MOST, MOST - 1)]))
        self.assertIsNone(told_by([NOUGHT, (3, 2), NOUGHT, NOUGHT]))
        self.assertIsNone(told_by([NOUGHT, HALF, NOUGHT, (26, 100)]))

    def test_too_little_heard(self):
        # Of a half and a third 1/72 is heard at moment 6, whatever stands behind.
        record = [NOUGHT, HALF, NOUGHT, (1, 12), NOUGHT]
        self.assertIsNone(told_by(record + [(1, 73)]))
        self.assertIsNone(told_by(record + [NOUGHT]))
        self.assertEqual(told_by(record + [(1, 72)]), [HALF, THIRD, NOUGHT])

    def test_the_most_that_may_be_heard(self):
        for count in range(1, 9):
            walls = EIGHT[:count - 1] + [ONE]
            record = record_of(walls)
            with self.subTest(walls=walls):
                self.assertEqual(told_by(record), walls)
                record[-1] = part_of(value(record[-1]) + Fraction(1, 10 ** 50))
                self.assertIsNone(told_by(record))

    def test_something_heard_behind_a_wall_that_returns_all(self):
        for count in range(2, 9):
            for place in range(1, count):
                record = record_of([ONE] + [NOUGHT] * (count - 1))
                record[2 * place + 1] = (1, 100)
                with self.subTest(record=record):
                    self.assertIsNone(told_by(record))

    def test_other_than_heard_ahead_of_a_wall_that_returns_all(self):
        for count in range(3, 9):
            for change in (Fraction(1, 10 ** 40), Fraction(-1, 10 ** 40)):
                record = record_of([HALF, ONE] + [HALF] * (count - 2))
                record[-1] = part_of(value(record[-1]) + change)
                with self.subTest(record=record):
                    self.assertIsNone(told_by(record))


def told_wall_by_wall(strengths):
    """Point [9]: each wall from what the walls ahead of it return among themselves and let through."""
    walls = []
    through = Fraction(1)
    for place, strength in enumerate(strengths):
        among = value(heard(Field(walls + [NOUGHT]), 2 * place + 2)[-1])
        more = value(strength) - among
        if more < 0 or more > through or (through == 0 and more != 0):
            return None
        part = more / through if through != 0 else Fraction(0)
        walls.append(part_of(part))
        through = through * (1 - part) ** 2
    return walls


class WallByWall(Checking):
    def test_short_records(self):
        strengths = sorted({part_of(Fraction(top, 16)) for top in range(17)}) + [(1, 64), (1, 72), (1, 12), (9, 8)]
        for count in (1, 2, 3):
            for row in itertools.product(strengths, repeat=count):
                with self.subTest(row=row):
                    self.assertEqual(told_by(with_noughts(row)), told_wall_by_wall(row))

    def test_long_records(self):
        strengths = [(1, 8), (1, 16), (1, 32), (1, 64)]
        for row in itertools.product([NOUGHT, (1, 200), (1, 20)], repeat=4):
            with self.subTest(row=row):
                longer = strengths + list(row)
                self.assertEqual(told_by(with_noughts(longer)), told_wall_by_wall(longer))


class SixtyFigures(Checking):
    def test_one_wall(self):
        for part in ((1, MOST), (MOST - 1, MOST), (10 ** 59, 10 ** 59 + 1)):
            with self.subTest(part=part):
                self.assertEqual(told_by([NOUGHT, part]), [part])

    def test_two_walls(self):
        first = (10 ** 59 + 1, MOST)
        second = (10 ** 59 - 1, MOST - 2)
        share = value(second) / (1 - value(first)) ** 2
        told = told_by([NOUGHT, part_of(value(first)), NOUGHT, part_of(value(second))])
        self.assertEqual(told, [part_of(value(first)), part_of(share)])

    def test_eight_walls(self):
        strengths = []
        for k, strength in enumerate(record_of([(1, 4), (1, 5), THIRD, (1, 6), (1, 4), (1, 7), THIRD, (1, 5)])[1::2]):
            bottom = MOST - 2 * k
            strengths.append(part_of(Fraction(strength[0] * bottom // strength[1], bottom)))
        for count in range(1, 9):
            with self.subTest(count=count):
                record = with_noughts(strengths[:count])
                told = told_by(record)
                self.assertEqual(len(told), count)
                self.assert_fractions(told)
                self.assertTrue(all(0 <= top <= bottom for top, bottom in told))
                self.assertEqual(heard_residues(told), [residue(strength) for strength in record])

    def test_walls_of_few_figures_behind_strengths_of_sixty(self):
        walls = [(12345678901, 98765432101), (1, 99999999977), (7, 31), (1, 2)]
        walls = [part_of(value(wall)) for wall in walls]
        self.assertEqual(told_by(record_of(walls)), walls)


class Refused(Checking):
    def test_other_lengths(self):
        for count in (0, 1, 3, 5, 7, 9, 11, 13, 15, 17, 18, 19, 20, 100):
            for strength in (NOUGHT, HALF, ONE):
                with self.subTest(count=count, strength=strength):
                    self.assert_refused(NoRecord, told_by, [strength] * count)

    def test_each_even_length_is_taken(self):
        for count in range(2, 17, 2):
            with self.subTest(count=count):
                self.assertEqual(told_by([NOUGHT] * count), [NOUGHT] * (count // 2))

    def test_a_fraction_below_nought(self):
        for count in range(1, 9):
            for walls in (EIGHT[:count], [ONE] * count):
                for place in range(2 * count):
                    for strength in ((-1, 2), (-1, 1), (-1, MOST), (-MOST, 1)):
                        record = record_of(walls)
                        record[place] = strength
                        with self.subTest(record=record):
                            self.assert_refused(NoRecord, told_by, record)

    def test_below_nought_comes_ahead_of_none(self):
        self.assert_refused(NoRecord, told_by, [HALF, (2, 1), NOUGHT, (-1, 3)])


class Lists(unittest.TestCase):
    def records(self):
        return [
            record_of(EIGHT),
            record_of([HALF, ONE, HALF]),
            record_of([NOUGHT]),
            [NOUGHT, (3, 2)],
            [HALF, HALF],
            [NOUGHT, ONE, NOUGHT, HALF],
        ]

    def test_the_record_stays_as_it_was(self):
        for record in self.records():
            before = list(record)
            with self.subTest(record=record):
                told_by(record)
                self.assertEqual(record, before)

    def test_the_record_stays_when_refused(self):
        for record in ([], [HALF], [NOUGHT, (-1, 2)]):
            before = list(record)
            with self.assertRaises(NoRecord):
                told_by(record)
            self.assertEqual(record, before)

    def test_the_told_list_may_be_changed(self):
        for walls in (EIGHT, [HALF, ONE, NOUGHT], [NOUGHT, ONE]):
            record = record_of(walls)
            told = told_by(record)
            told[0] = (5, 7)
            told.append(HALF)
            with self.subTest(walls=walls):
                self.assertEqual(told_by(record), walls)
                self.assertEqual(record, record_of(walls))

    def test_the_record_may_be_changed_later(self):
        record = record_of([HALF, THIRD])
        told = told_by(record)
        record.clear()
        self.assertEqual(told, [HALF, THIRD])


if __name__ == "__main__":
    unittest.main()
