import unittest

from echofield.errors import NoField, TooMany
from echofield.fields import Field, joined, turned
from helper import EIGHT, HALF, NOUGHT, ONE, THIRD, TWELVE_FIGURES, Checking


class Making(Checking):
    def test_one_to_eight_walls(self):
        for count in range(1, 9):
            with self.subTest(count=count):
                self.assertEqual(Field(EIGHT[:count]).walls(), EIGHT[:count])

    def test_no_wall_is_refused(self):
        self.assert_refused(NoField, Field, [])

    def test_more_than_eight_walls_are_refused(self):
        for count in (9, 10, 16, 100):
            with self.subTest(count=count):
                self.assert_refused(NoField, Field, [HALF] * count)

    def test_nought_and_one_are_parts(self):
        for walls in ([NOUGHT], [ONE], [NOUGHT, ONE], [ONE, NOUGHT], [NOUGHT] * 8, [ONE] * 8):
            with self.subTest(walls=walls):
                self.assertEqual(Field(walls).walls(), walls)

    def test_bottoms_of_twelve_figures(self):
        walls = [(1, TWELVE_FIGURES), (TWELVE_FIGURES - 1, TWELVE_FIGURES), (1, 10 ** 11)]
        self.assertEqual(Field(walls).walls(), walls)

    def test_bottoms_somewhat_beyond_twelve_figures_are_not_refused(self):
        walls = [(1, 10 ** 12), (10 ** 13, 10 ** 13 + 1)]
        self.assertEqual(Field(walls).walls(), walls)

    def assert_wall_refused(self, wall):
        for count in range(1, 9):
            for place in range(count):
                walls = [HALF] * count
                walls[place] = wall
                with self.subTest(walls=walls):
                    self.assert_refused(NoField, Field, walls)

    def test_a_part_below_nought_is_refused(self):
        for wall in ((-1, 2), (-1, 1), (-3, 2), (-1, TWELVE_FIGURES)):
            self.assert_wall_refused(wall)

    def test_a_part_above_one_is_refused(self):
        for wall in ((3, 2), (2, 1), (TWELVE_FIGURES, 1), (TWELVE_FIGURES, TWELVE_FIGURES - 1)):
            self.assert_wall_refused(wall)


class Walls(unittest.TestCase):
    def test_a_list_of_tuples_in_order(self):
        walls = Field([HALF, NOUGHT, THIRD]).walls()
        self.assertIs(type(walls), list)
        self.assertEqual(walls, [(1, 2), (0, 1), (1, 3)])

    def test_the_asker_may_change_it(self):
        field = Field([HALF, THIRD])
        told = field.walls()
        told[0] = ONE
        told.append(NOUGHT)
        self.assertEqual(field.walls(), [HALF, THIRD])

    def test_a_new_list_at_each_asking(self):
        field = Field([HALF, THIRD])
        self.assertIsNot(field.walls(), field.walls())

    def test_the_list_handed_in_may_be_changed_later(self):
        walls = [HALF, THIRD]
        field = Field(walls)
        walls[0] = ONE
        walls.clear()
        self.assertEqual(field.walls(), [HALF, THIRD])

    def test_the_list_handed_in_is_not_changed(self):
        walls = [HALF, THIRD]
        field = Field(walls)
        self.assertIsNot(field.walls(), walls)
        field.walls().clear()
        self.assertEqual(walls, [HALF, THIRD])

    def test_two_fields_of_one_list_are_apart(self):
        walls = [HALF, THIRD]
        one = Field(walls)
        walls.append(ONE)
        other = Field(walls)
        self.assertEqual(one.walls(), [HALF, THIRD])
        self.assertEqual(other.walls(), [HALF, THIRD, ONE])


class Turned(unittest.TestCase):
    def test_the_walls_are_the_other_way_round(self):
        for count in range(1, 9):
            with self.subTest(count=count):
                answer = turned(Field(EIGHT[:count]))
                self.assertIsInstance(answer, Field)
                self.assertEqual(answer.walls(), EIGHT[:count][::-1])

    def test_turned_twice_is_as_before(self):
        self.assertEqual(turned(turned(Field(EIGHT))).walls(), EIGHT)

    def test_the_field_handed_in_stays(self):
        field = Field([HALF, THIRD, ONE])
        turned(field).walls().clear()
        self.assertEqual(field.walls(), [HALF, THIRD, ONE])


class Joined(Checking):
    def test_the_walls_of_the_one_then_of_the_other(self):
        answer = joined(Field([HALF, NOUGHT]), Field([THIRD, ONE, HALF]))
        self.assertIsInstance(answer, Field)
        self.assertEqual(answer.walls(), [HALF, NOUGHT, THIRD, ONE, HALF])

    def test_the_other_way_round_is_another_field(self):
        self.assertEqual(joined(Field([THIRD]), Field([HALF])).walls(), [THIRD, HALF])

    def test_eight_walls_in_all(self):
        for count in range(1, 8):
            with self.subTest(count=count):
                self.assertEqual(joined(Field(EIGHT[:count]), Field(EIGHT[count:])).walls(), EIGHT)

    def test_more_than_eight_walls_are_refused(self):
        for first in range(1, 9):
            for second in range(9 - first, 9):
                with self.subTest(first=first, second=second):
                    self.assert_refused(TooMany, joined, Field(EIGHT[:first]), Field(EIGHT[:second]))

    def test_a_field_joined_to_itself(self):
        field = Field([HALF, THIRD])
        self.assertEqual(joined(field, field).walls(), [HALF, THIRD, HALF, THIRD])
        self.assertEqual(field.walls(), [HALF, THIRD])

    def test_the_fields_handed_in_stay(self):
        one = Field([HALF, THIRD])
        other = Field([ONE])
        joined(one, other).walls().clear()
        self.assertEqual(one.walls(), [HALF, THIRD])
        self.assertEqual(other.walls(), [ONE])

    def test_the_fields_handed_in_stay_when_refused(self):
        one = Field(EIGHT)
        other = Field([ONE])
        self.assert_refused(TooMany, joined, one, other)
        self.assertEqual(one.walls(), EIGHT)
        self.assertEqual(other.walls(), [ONE])


if __name__ == "__main__":
    unittest.main()
