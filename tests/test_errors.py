import unittest

from kinturns import errors
from kinturns.errors import KinError

NAMES = ["NoTable", "NoClass", "NoWalk", "NoRule", "NoPerson", "NoParents", "TooMany", "BadNote"]


class ErrorsTest(unittest.TestCase):

    def test_kin_error_is_a_value_error(self):
        self.assertEqual(KinError.__bases__, (ValueError,))

    def test_each_refusal_is_a_kin_error(self):
        for name in NAMES:
            with self.subTest(name=name):
                self.assertTrue(issubclass(getattr(errors, name), KinError))
                self.assertIsNot(getattr(errors, name), KinError)

    def test_no_refusal_stands_under_another(self):
        for name in NAMES:
            for other in NAMES:
                if name != other:
                    with self.subTest(name=name, other=other):
                        self.assertFalse(issubclass(getattr(errors, name), getattr(errors, other)))

    def test_each_can_be_raised_with_words_and_taken_as_a_value_error(self):
        for name in NAMES:
            with self.subTest(name=name):
                with self.assertRaises(ValueError):
                    raise getattr(errors, name)("words")


if __name__ == "__main__":
    unittest.main()
