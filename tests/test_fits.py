import itertools
import unittest

from tieseek.machine import fits

from helper import GREATEST, LETTERS, MARK_SIGNS, mark, step_fits

# For each sign whether a weight less than, equal to, more than the mark's number fits.
TABLE = {
    "": (True, True, True), "<": (True, False, False), ">": (False, False, True), "=": (False, True, False),
    "!": (True, False, True),
}
# On both sides of nought, and of sixty figures.
NUMBERS = (0, 1, -1, 2, -2, 9, 10, -10, 305, 10 ** 59, -(10 ** 59), GREATEST - 1, GREATEST, 1 - GREATEST, -GREATEST)


class Fits(unittest.TestCase):
    """[0.8]"""

    def check(self, one, step, told):
        with self.subTest(mark=one, step=step):
            self.assertIs(fits(one, step), told)

    def test_conditions(self):
        for sign, told in TABLE.items():
            for number in NUMBERS:
                # Without a sign the number is nought, whatever the weight.
                one = mark("near", False, sign, number if sign else 0)
                for weight, fitting in zip((number - 1, number, number + 1), told):
                    self.check(one, ("near", weight, False), fitting)

    def test_conditions_far_off(self):
        for sign, told in TABLE.items():
            for low, high in ((-GREATEST, GREATEST), (-1, 1), (-GREATEST, 0), (0, GREATEST), (9, 10), (-10, -9)):
                self.check(mark("near", True, sign, high if sign else 0), ("near", low, True), told[0])
                self.check(mark("near", True, sign, low if sign else 0), ("near", high, True), told[2])

    def test_by_whole_numbers_not_by_their_texts(self):
        self.check(mark("a", False, "<", 10), ("a", 9, False), True)
        self.check(mark("a", False, ">", 9), ("a", 10, False), True)
        self.check(mark("a", False, "<", -9), ("a", -10, False), True)
        self.check(mark("a", False, "=", -1), ("a", 1, False), False)

    def test_beyond_sixty_figures(self):
        for sign, told in TABLE.items():
            for weight, fitting in zip((10 ** 60, 10 ** 60 + 1, 10 ** 60 + 2), told):
                self.check(mark("a", False, sign, 10 ** 60 + 1 if sign else 0), ("a", weight, False), fitting)

    def test_names(self):
        for name, other, told in (
            ("a", "a", True), ("near", "near", True), ("abcdefghijkl", "abcdefghijkl", True),
            ("a", "b", False), ("near", "nest", False), ("a", "ab", False), ("ab", "a", False),
            ("near", "nearer", False), ("nearer", "near", False), ("ab", "b", False), ("b", "ab", False), ("ab", "ba", False),
            ("abcdefghijkl", "abcdefghijk", False), ("abcdefghijkl", "abcdefghijkm", False), ("a", "aa", False),
        ):
            for back in (False, True):
                self.check(mark(name, back), (other, 3, back), told)
                self.check(mark(name, back, ">", 2), (other, 3, back), told)
                self.check(mark(name, back, "<", 2), (other, 3, back), False)

    def test_any_name(self):
        for name in list(LETTERS) + ["near", "abcdefghijkl"]:
            for back in (False, True):
                self.check(mark("_", back), (name, 0, back), True)
                self.check(mark("_", back, "=", 4), (name, 4, back), True)
                self.check(mark("_", back, "=", 4), (name, 5, back), False)
                self.check(mark("_", back), (name, 0, not back), False)

    def test_back(self):
        for name in ("near", "_"):
            for sign, told in TABLE.items():
                for back in (False, True):
                    self.check(mark(name, back, sign, 0), ("near", 0, back), told[1])
                    self.check(mark(name, back, sign, 0), ("near", 0, not back), False)

    def test_all_three_at_once(self):
        marks = [mark(name, back, sign, 2 if sign else 0) for name in ("a", "ab", "_") for back in (False, True)
                 for sign in MARK_SIGNS]
        steps = list(itertools.product(("a", "ab", "b"), (1, 2, 3), (False, True)))
        for one in marks:
            for step in steps:
                self.check(one, step, step_fits(one, step))


if __name__ == "__main__":
    unittest.main()
