import unittest

from echofield.errors import BadText, EchoError, NoField, NoMoment, NoRecord, TooMany

REFUSALS = (NoField, NoMoment, NoRecord, TooMany, BadText)


class Errors(unittest.TestCase):
    def test_echo_error_is_straight_under_value_error(self):
        self.assertEqual(EchoError.__bases__, (ValueError,))

    def test_each_refusal_is_straight_under_echo_error(self):
        for refusal in REFUSALS:
            with self.subTest(refusal=refusal.__name__):
                self.assertEqual(refusal.__bases__, (EchoError,))

    def test_no_refusal_is_under_another_one(self):
        for one in REFUSALS:
            for other in REFUSALS:
                with self.subTest(one=one.__name__, other=other.__name__):
                    self.assertEqual(issubclass(one, other), one.__name__ == other.__name__)

    def test_the_names_are_those_of_the_classes(self):
        self.assertEqual(
            [refusal.__name__ for refusal in REFUSALS],
            ["NoField", "NoMoment", "NoRecord", "TooMany", "BadText"],
        )


if __name__ == "__main__":
    unittest.main()
