import itertools
import unittest

from echofield.errors import BadText
from echofield.fields import Field
from echofield.notes import read, shown
from helper import EIGHT, HALF, LONG, NOUGHT, ONE, ROWS, THIRD, TWELVE_FIGURES, Checking

# Parts that are refused by themselves and at each place of a row.
BAD_PARTS = [
    # a figure, a half or the stroke left out
    "1", "12", "/", "/2", "1/", "1//2", "1/2/", "/1/2", "1/2/3", "1/3/3",
    # signs ahead
    "+1/2", "1/+2", "-1/2", "1/-2", "-1/-2", "-0/1", "+0/1", "0/-1",
    # not in lowest terms
    "2/4", "2/2", "3/9", "0/2", "0/10", "500000000000/999999999998", "999999999999/999999999999",
    # above one
    "2/1", "3/2", "9/8", "999999999999/1", "999999999999/999999999998", "1000000000000/1",
    # a nought ahead
    "00/1", "0/01", "01/2", "1/02", "01/02", "000/1", "01/1", "1/01", "1/000000000002",
    # a bottom nought
    "0/0", "1/0", "1/00", "5/0",
    # more than twelve figures
    "1/1000000000000", "999999999999/1000000000000", "1000000000000/1000000000001",
    "1/0000000000002", "0000000000001/2", "1/" + "9" * 60, "9" * 60 + "/" + "9" * 61,
    # tabs and line ends
    "\t1/2", "1/2\t", "1\t/2", "1/\t2", "\n1/2", "1/2\n", "1\n/2", "1/2\n1/3", "1/2\t1/3", "\t", "\n",
    # other signs
    "a", "a/b", "x/2", "1/x", "1.0/2", "1/2.0", "0.5", "1e0/2", "1/2e1", "1_0/11", "1/1_1", "0x1/2", "1/0b11",
    "1:2", "1\\2", "1|2", "(1/2)", "[1/2]", "1/2,", "1/2,1/3", "1/2;", "\"1/2\"", "'1/2'", "~", "1/2~", "!", "1/2#",
    "1^/2", "1*/2", "1=/2", "None",
]


class Shown(unittest.TestCase):
    def test_as_the_document_shows(self):
        self.assertEqual(shown(Field([HALF, NOUGHT, THIRD])), "1/2 0/1 1/3")

    def test_one_to_eight_walls(self):
        text = "1/2 1/3 1/4 1/5 1/6 1/7 1/8 1/9"
        for count in range(1, 9):
            with self.subTest(count=count):
                self.assertEqual(shown(Field(EIGHT[:count])), text[:4 * count - 1])

    def test_nought_and_one(self):
        self.assertEqual(shown(Field([NOUGHT])), "0/1")
        self.assertEqual(shown(Field([ONE])), "1/1")
        self.assertEqual(shown(Field([ONE, NOUGHT] * 4)), "1/1 0/1 1/1 0/1 1/1 0/1 1/1 0/1")

    def test_twelve_figures(self):
        walls = [(TWELVE_FIGURES - 1, TWELVE_FIGURES), (1, 10 ** 11)]
        self.assertEqual(shown(Field(walls)), "999999999998/999999999999 1/100000000000")

    def test_the_field_stays(self):
        field = Field([HALF, THIRD])
        self.assertIs(type(shown(field)), str)
        self.assertEqual(field.walls(), [HALF, THIRD])

    def test_a_bottom_somewhat_beyond_is_shown(self):
        self.assertEqual(shown(Field([(1, 10 ** 12)])), "1/1000000000000")


class Read(Checking):
    def assert_read(self, walls):
        with self.subTest(walls=walls):
            field = read(shown(Field(walls)))
            self.assertIsInstance(field, Field)
            self.assertEqual(field.walls(), walls)
            self.assert_fractions(field.walls())

    def test_as_the_document_shows(self):
        self.assertEqual(read("1/2 0/1 1/3").walls(), [HALF, NOUGHT, THIRD])

    def test_what_is_shown_is_read(self):
        for walls in ROWS:
            self.assert_read(walls)
        for count in range(1, 9):
            self.assert_read(EIGHT[:count])
            self.assert_read(LONG[:count])
            self.assert_read([(TWELVE_FIGURES - 1, TWELVE_FIGURES)] * count)
        for count in (1, 2, 3):
            for walls in itertools.product((NOUGHT, ONE, HALF, (10, 11), (1, 10)), repeat=count):
                self.assert_read(list(walls))

    def test_the_asker_may_change_the_walls(self):
        field = read("1/2 1/3")
        field.walls().clear()
        self.assertEqual(field.walls(), [HALF, THIRD])
        self.assertEqual(read("1/2 1/3").walls(), [HALF, THIRD])


class Refused(Checking):
    def assert_bad(self, text):
        with self.subTest(text=text):
            self.assert_refused(BadText, read, text)

    def test_no_part(self):
        for text in ("", " ", "  ", "\n", "\t", " " * 300):
            self.assert_bad(text)

    def test_blanks_ahead_behind_and_two_between(self):
        for walls in ROWS:
            text = shown(Field(walls))
            self.assert_bad(" " + text)
            self.assert_bad(text + " ")
            self.assert_bad(text.replace(" ", "  ") if " " in text else " " + text + " ")

    def test_blanks_within_a_part(self):
        for text in ("1 /2", "1/ 2", "1 / 2", "1 2", "1/2 1 /3"):
            self.assert_bad(text)

    def test_a_tab_or_a_line_end_for_a_blank(self):
        for sign in ("\t", "\n", " \t", "\n "):
            self.assert_bad(f"1/2{sign}1/3")
            self.assert_bad(f"1/2 1/3{sign}")
            self.assert_bad(f"{sign}1/2 1/3")

    def test_bad_parts(self):
        for part in BAD_PARTS:
            self.assert_bad(part)

    def test_a_bad_part_at_each_place(self):
        for part in BAD_PARTS:
            for count in (2, 3, 8):
                for place in range(count):
                    row = ["1/2"] * count
                    row[place] = part
                    self.assert_bad(" ".join(row))

    def test_nine_parts_and_more(self):
        for count in (9, 10, 16, 75):
            self.assert_bad(" ".join(["1/2"] * count))
            self.assert_bad(" ".join(["0/1"] * count))

    def test_each_sign_put_in_or_in_place(self):
        # Whatever is read must be the one text that its field is shown as.
        signs = ["\t", "\n"] + [chr(code) for code in range(ord(" "), ord("~") + 1) if chr(code) != "%"]
        text = "1/2 10/11"
        for place in range(len(text) + 1):
            for sign in signs:
                for other in (text[:place] + sign + text[place:], text[:place] + sign + text[place + 1:]):
                    with self.subTest(text=other):
                        self.assert_read_or_refused(other)

    def assert_read_or_refused(self, text):
        try:
            field = read(text)
        except BadText:
            return
        self.assertEqual(shown(field), text)

    def test_long_texts(self):
        for text in ("1" * 300, "1/" + "1" * 298, "/" * 300, "1/2 " * 75, "9" * 5000, "1/" + "9" * 5000):
            self.assert_bad(text)


if __name__ == "__main__":
    unittest.main()
