import unittest

from contraryrolls import errors
from contraryrolls.errors import RollError
from tests.kinds import values

NAMES = (
    'BadWeb BadNumber BadMarks BadArrows BadNames BadOrder BadReader BadRoll TooMany BadPairs TooGreat Lets NoWay '
    'HasWay BadSaying NotClosed BadPlaces NotSo BadMaking NotLed BadName BadWord NotLone NoThing WrongKind Held '
    'BadDeed BadKind NothingToUndo NothingToRedo NoNote BadDesk'
).split()


class Errors(unittest.TestCase):
    def test_all_are_there_and_defined_in_this_file(self):
        self.assertEqual(len(NAMES), 32)
        for name in ['RollError'] + NAMES:
            self.assertEqual(getattr(errors, name).__module__, 'contraryrolls.errors')
            self.assertEqual(getattr(errors, name).__name__, name)

    def test_what_they_derive_from(self):
        self.assertEqual(RollError.__bases__, (ValueError,))
        for name in NAMES:
            self.assertEqual(getattr(errors, name).__bases__, (RollError,))

    def test_each_keeps_any_value(self):
        for name in ['RollError'] + NAMES:
            for value in values():
                error = getattr(errors, name)(value)
                self.assertIs(error.value, value)
                self.assertIsInstance(error, RollError)
                self.assertIsInstance(error, ValueError)

    def test_none_is_another_one(self):
        for name in NAMES:
            error = getattr(errors, name)([1])
            for other in NAMES:
                self.assertEqual(isinstance(error, getattr(errors, other)), name == other)
        for name in NAMES:
            self.assertNotIsInstance(RollError(1), getattr(errors, name))

    def test_they_can_be_raised_and_caught(self):
        for name in ['RollError'] + NAMES:
            value = [name]
            for kind in (getattr(errors, name), RollError, ValueError):
                with self.assertRaises(kind) as caught:
                    raise getattr(errors, name)(value)
                self.assertIs(caught.exception.value, value)

    def test_there_is_one_argument(self):
        for name in ['RollError'] + NAMES:
            with self.assertRaises(TypeError):
                getattr(errors, name)()
            with self.assertRaises(TypeError):
                getattr(errors, name)(1, 2)


if __name__ == '__main__':
    unittest.main()
