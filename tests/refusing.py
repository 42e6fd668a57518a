"""What tests of refusals share."""

import copy
import unittest

from whoselaw import errors

ALL_ERRORS = (
    errors.NotHeld, errors.NoTurn, errors.NoFact, errors.Twice, errors.TooMany, errors.NotTold, errors.NoRule,
    errors.NoText,
)


class Refusing(unittest.TestCase):
    def refused(self, error, deed, *args):
        """The deed is refused with just this error, and what it was handed stays as it was."""
        kept = copy.deepcopy(args)
        with self.assertRaises(errors.LawError) as caught:
            deed(*args)
            # Large things are shown only where they are to blame.
            self.fail(repr(args)[:500])
        self.assertIs(type(caught.exception), error, repr(args)[:500])
        self.assertIsInstance(caught.exception, ValueError)
        self.assertNotIsInstance(caught.exception, tuple(each for each in ALL_ERRORS if each is not error))
        self.assertEqual(repr(args), repr(kept))
