"""Parts, fields, sounds, told and notes used together."""

import itertools
import unittest

from echofield.errors import BadText, NoField, NoMoment, NoRecord, TooMany
from echofield.fields import Field, joined, turned
from echofield.notes import read, shown
from echofield.parts import minus, over, plus, times
from echofield.sounds import going, heard, in_all, lost
from echofield.told import told_by
from helper import EIGHT, HALF, LONG, NOUGHT, ONE, ROWS, THIRD, Checking


def added(parts):
    whole = NOUGHT
    for part in parts:
        whole = plus(whole, part)
    return whole


class Together(Checking):
    def test_a_text_heard_told_and_shown_again(self):
        for text in ("1/2", "0/1 1/1", "1/2 0/1 1/3", "1/2 1/3 1/4 1/5 1/6 1/7 1/8 1/9", "2/3 0/1 0/1 5/7 1/1"):
            with self.subTest(text=text):
                field = read(text)
                record = heard(field, 2 * len(field.walls()))
                self.assertEqual(shown(Field(told_by(record))), text)

    def test_a_turned_field_is_told_from_its_own_record(self):
        for walls in ROWS:
            if ONE in walls:
                continue
            with self.subTest(walls=walls):
                back = read(shown(turned(Field(walls))))
                self.assertEqual(told_by(heard(back, 2 * len(walls))), walls[::-1])

    def test_a_joined_field_begins_as_the_first_one(self):
        one = Field([HALF, THIRD, (3, 4)])
        other = Field([(1, 5), NOUGHT, (2, 7)])
        both = joined(one, other)
        self.assertEqual(heard(both, 7), heard(one, 7))
        self.assertEqual(told_by(heard(both, 6)), one.walls())
        self.assertEqual(told_by(heard(both, 12)), one.walls() + other.walls())
        self.assertEqual(shown(both), shown(one) + " " + shown(other))

    def test_joined_fields_add_their_bars(self):
        for first, second in itertools.product(ROWS, ROWS):
            if len(first) + len(second) > 8 or ONE in first + second:
                continue
            with self.subTest(first=first, second=second):
                bars = [over(told[0], told[1]) for told in (in_all(Field(first)), in_all(Field(second)))]
                told = in_all(joined(Field(first), Field(second)))
                self.assertEqual(over(told[0], told[1]), plus(bars[0], bars[1]))

    def test_all_comes_to_one_by_the_programs_own_sums(self):
        for walls in ROWS:
            field = Field(walls)
            with self.subTest(walls=walls):
                right, left = going(field, 12)
                self.assertEqual(added(right + left + heard(field, 12) + lost(field, 12)), ONE)
                told = in_all(field)
                self.assertEqual(minus(ONE, told[0]), told[1])

    def test_the_first_sound_through_is_the_product_of_the_rests(self):
        for walls in ROWS:
            with self.subTest(walls=walls):
                through = ONE
                for wall in walls:
                    through = times(through, minus(ONE, wall))
                self.assertEqual(lost(Field(walls), len(walls) + 1), [NOUGHT] * len(walls) + [through])

    def test_every_refusal(self):
        self.assert_refused(NoField, Field, [])
        self.assert_refused(NoField, Field, [(3, 2)])
        self.assert_refused(TooMany, joined, Field(EIGHT), read("1/2"))
        for call in (going, heard, lost):
            self.assert_refused(NoMoment, call, read("1/2"), 41)
        self.assert_refused(NoRecord, told_by, heard(read("1/2"), 3))
        self.assert_refused(BadText, read, shown(Field(EIGHT)) + " " + shown(Field([HALF])))


class NothingHangs(Checking):
    def test_nothing_handed_in_is_changed(self):
        for walls in ROWS:
            with self.subTest(walls=walls):
                handed_in = list(walls)
                field = Field(handed_in)
                other = Field([THIRD])
                self.ask_all(field, other)
                self.assertEqual(handed_in, walls)
                self.assertEqual(field.walls(), walls)
                self.assertEqual(other.walls(), [THIRD])

    def ask_all(self, field, other):
        if len(field.walls()) < 8:
            joined(field, other)
        turned(field)
        going(field, 9)
        lost(field, 9)
        in_all(field)
        shown(field)
        record = heard(field, 2 * len(field.walls()))
        before = list(record)
        told_by(record)
        self.assertEqual(record, before)

    def lists_told(self, field):
        right, left = going(field, 3)
        even = 2 * len(field.walls())
        return [right, left, heard(field, 3), lost(field, 3), field.walls(), told_by(heard(field, even))]

    def test_no_two_lists_are_one(self):
        for walls in ROWS:
            field = Field(walls)
            lists = self.lists_told(field) + self.lists_told(field) + [turned(field).walls(), read(shown(field)).walls()]
            for one, other in itertools.combinations(lists, 2):
                self.assertIsNot(one, other)

    def test_told_lists_are_changed_and_all_is_asked_again(self):
        for walls in ROWS:
            field = Field(walls)
            before = [list(told) for told in self.lists_told(field)]
            for told in self.lists_told(field):
                told.clear()
                told.append((5, 7))
            with self.subTest(walls=walls):
                self.assertEqual(self.lists_told(field), before)

    def test_every_strength_has_its_own_form(self):
        for walls in ROWS + [[(2, 3), (3, 4), (4, 5)], [(5, 6), (6, 7)], LONG[2:5]]:
            field = Field(walls)
            with self.subTest(walls=walls):
                for told in self.lists_told(field) + list(going(field, 40)) + [list(in_all(field))]:
                    self.assert_fractions(told)
                self.assert_fractions(heard(field, 40) + lost(field, 40))


if __name__ == "__main__":
    unittest.main()
