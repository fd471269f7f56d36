import unittest

from fieldgate import errors

NAMES = ["NoText", "Twice", "NoName", "NoKind", "TooGreat", "Empty", "TooLong", "TooDeep", "Gone", "NoRow",
         "NoProgram"]


class Errors(unittest.TestCase):
    def test_all_stand_under_gate_error_and_value_error(self):
        self.assertTrue(issubclass(errors.GateError, ValueError))
        for name in NAMES:
            with self.subTest(name):
                self.assertTrue(issubclass(getattr(errors, name), errors.GateError))
                self.assertIsNot(getattr(errors, name), errors.GateError)

    def test_none_stands_under_another(self):
        for name in NAMES:
            for other in NAMES:
                if name != other:
                    self.assertFalse(issubclass(getattr(errors, name), getattr(errors, other)), (name, other))

    def test_each_is_raised_and_taken_with_words(self):
        for name in NAMES:
            with self.assertRaises(errors.GateError) as caught:
                raise getattr(errors, name)("words")
            self.assertEqual(str(caught.exception), "words")


if __name__ == "__main__":
    unittest.main()
