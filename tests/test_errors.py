import unittest

from forestread import errors

REFUSALS = [
    "NoGrammar", "NoText", "NoRow", "NoRule", "NoNumber", "NoCosts",
    "NoChange", "NoWords", "Endless", "TooGreat", "Barren",
]


class ErrorsTest(unittest.TestCase):

    def test_forest_error_stands_under_value_error(self):
        self.assertEqual(errors.ForestError.__bases__, (ValueError,))

    def test_each_refusal_stands_straight_under_forest_error(self):
        for name in REFUSALS:
            with self.subTest(name):
                self.assertEqual(getattr(errors, name).__bases__, (errors.ForestError,))

    def test_each_refusal_is_a_class_of_its_own_name(self):
        for name in REFUSALS:
            with self.subTest(name):
                self.assertEqual(getattr(errors, name).__name__, name)

    def test_none_stands_under_another_one(self):
        for name in REFUSALS:
            for other in REFUSALS:
                with self.subTest(name=name, other=other):
                    under = issubclass(getattr(errors, name), getattr(errors, other))
                    self.assertEqual(under, name == other)

    def test_each_can_be_raised_and_taken(self):
        for name in REFUSALS:
            for taken in (getattr(errors, name), errors.ForestError, ValueError):
                with self.subTest(name=name, taken=taken):
                    with self.assertRaises(taken):
                        raise getattr(errors, name)("words")


if __name__ == "__main__":
    unittest.main()
