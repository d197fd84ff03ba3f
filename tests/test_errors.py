import unittest

from tieseek import errors

NAMES = (
    "NoName", "NoNumber", "NoThing", "NoKey", "NoTie", "Twice", "StillTied", "Full",
    "NoRow", "NoPiece", "TooGreat", "NoPattern", "NoWay", "NoQuestion", "NoPlan", "NoFilling",
)


class Refusals(unittest.TestCase):
    """[0.4] and the interface of tieseek/errors.py."""

    def test_seek_error_stands_straight_under_value_error(self):
        self.assertEqual(errors.SeekError.__bases__, (ValueError,))

    def test_there_are_sixteen(self):
        self.assertEqual(len(set(NAMES)), 16)
        classes = [name for name in vars(errors) if isinstance(getattr(errors, name), type)]
        self.assertEqual(sorted(classes), sorted(NAMES + ("SeekError",)))

    def test_each_stands_straight_under_seek_error(self):
        for name in NAMES:
            with self.subTest(name):
                self.assertEqual(getattr(errors, name).__bases__, (errors.SeekError,))
                self.assertEqual(getattr(errors, name).__name__, name)

    def test_none_stands_under_another_one(self):
        for one in NAMES:
            for other in NAMES:
                if one != other:
                    with self.subTest(one=one, other=other):
                        self.assertFalse(issubclass(getattr(errors, one), getattr(errors, other)))

    def test_each_can_be_raised_and_taken(self):
        for name in NAMES:
            with self.subTest(name):
                with self.assertRaises(errors.SeekError):
                    raise getattr(errors, name)("words")


if __name__ == "__main__":
    unittest.main()
