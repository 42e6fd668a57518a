import unittest

from whoselaw import errors

NAMES = ("NotHeld", "NoTurn", "NoFact", "Twice", "TooMany", "NotTold", "NoRule", "NoText")


class Errors(unittest.TestCase):
    def test_the_first_one_is_a_value_error(self):
        self.assertEqual(errors.LawError.__bases__, (ValueError,))

    def test_the_others_stand_under_it_and_none_under_another(self):
        for name in NAMES:
            self.assertEqual(getattr(errors, name).__bases__, (errors.LawError,), name)

    def test_they_are_unlike(self):
        self.assertEqual(len({getattr(errors, name) for name in NAMES}), len(NAMES))

    def test_all_are_made_without_anything(self):
        for name in NAMES + ("LawError",):
            refusal = getattr(errors, name)()
            self.assertIsInstance(refusal, errors.LawError)
            with self.assertRaises(errors.LawError):
                raise refusal


if __name__ == "__main__":
    unittest.main()
