import itertools
import unittest

from tieseek.pattern import marks_of, read_pattern, shown_pattern, turned
from tieseek.pieces import pieces

from helper import MARK_SIGNS, REPEATS, fit, in_turn, mark, name_at, named_anew, small_trees, tall_trees

A, B, C = [mark(name) for name in "abc"]
BACK_A, BACK_B, BACK_C = [mark(name, True) for name in "abc"]


def steps_turned(steps):
    return [(name, weight, not back) for name, weight, back in reversed(steps)]


class Turned(unittest.TestCase):
    """[3.4]"""

    def check(self, *pairs):
        for tree, other in pairs:
            with self.subTest(tree):
                self.assertEqual(turned(tree), other)
                self.assertEqual(turned(other), tree)

    def test_marks(self):
        self.check((A, BACK_A), (mark("_"), mark("_", True)))
        for sign in MARK_SIGNS[1:]:
            for number in (0, 5, -5):
                self.check((mark("a", False, sign, number), mark("a", True, sign, number)))

    def test_each_kind(self):
        self.check(
            (("row", A, B), ("row", BACK_B, BACK_A)), (("or", A, B), ("or", BACK_A, BACK_B)),
            (("many", A), ("many", BACK_A)), (("some", A), ("some", BACK_A)), (("maybe", A), ("maybe", BACK_A)),
        )

    def test_kinds_within_kinds(self):
        self.check(
            (("row", ("row", A, B), C), ("row", BACK_C, ("row", BACK_B, BACK_A))),
            (("row", A, BACK_B), ("row", B, BACK_A)),
            (("or", ("row", A, B), C), ("or", ("row", BACK_B, BACK_A), BACK_C)),
            (("row", ("or", A, B), C), ("row", BACK_C, ("or", BACK_A, BACK_B))),
            (("row", ("many", A), ("some", B)), ("row", ("some", BACK_B), ("many", BACK_A))),
            (("maybe", ("row", A, ("or", B, C))), ("maybe", ("row", ("or", BACK_B, BACK_C), BACK_A))),
            (("many", ("some", ("maybe", A))), ("many", ("some", ("maybe", BACK_A)))),
        )

    def test_kinds_of_values(self):
        tree = turned(("row", A, mark("b", True, "<", 1)))
        self.assertEqual([part.__class__ for part in tree], [str, tuple, tuple])
        self.assertIs(tree[1][2], False)
        self.assertIs(tree[2][2], True)

    def test_turned_twice(self):
        for tree in small_trees() + tall_trees():
            with self.subTest(tree):
                self.assertEqual(turned(turned(tree)), tree)
                self.assertNotEqual(turned(tree), tree)

    def test_by_its_text(self):
        for text, other in (
            ("a", "<a"), ("<a.b", "<b.a"), ("a.b.c", "<c.(<b.<a)"), ("(a|<b)*.c+", "<c+.(<a|b)*"),
            ("a[<1].<_[!2]?", "_[!2]?.<a[<1]"),
        ):
            self.assertEqual(shown_pattern(turned(read_pattern(text))), other)

    def test_the_tree_handed_in_stays(self):
        tree = ("row", ("many", A), ("or", B, BACK_C))
        turned(tree)
        self.assertEqual(tree, ("row", ("many", A), ("or", B, BACK_C)))

    def test_fits_what_fits_the_other_way(self):
        steps = [(name, 0, back) for name in "ab" for back in (False, True)]
        lists = [list(told) for count in range(4) for told in itertools.product(steps, repeat=count)]
        fitting = 0
        for tree in [named_anew(tree, names) for tree in small_trees() for names in ("ab", "a", "_b")]:
            other = turned(tree)
            for given in lists:
                fits = fit(tree, steps_turned(given))
                fitting += fits
                self.assertEqual(fit(other, given), fits, (tree, given))
        self.assertGreater(fitting, 500)

    def test_fits_with_conditions(self):
        steps = [("a", weight, back) for weight in (1, 2, 3) for back in (False, True)]
        for sign in MARK_SIGNS[1:]:
            tree = ("row", mark("a", False, sign, 2), mark("_", True, ">", 1))
            for given in itertools.product(steps, repeat=2):
                self.assertEqual(fit(turned(tree), given), fit(tree, steps_turned(given)))


class Marks(unittest.TestCase):
    """[3.5]"""

    def test_a_mark_alone(self):
        for one in (A, BACK_A, mark("_"), mark("near", True, "!", -3)):
            self.assertEqual(marks_of(one), [one])

    def test_each_kind(self):
        self.assertEqual(marks_of(("row", A, B)), [A, B])
        self.assertEqual(marks_of(("or", A, B)), [A, B])
        for kind in REPEATS:
            self.assertEqual(marks_of((kind, A)), [A])

    def test_from_left_to_right(self):
        self.assertEqual(marks_of(read_pattern("c.(a|<b)*.d?|e")),
                         [mark("c"), mark("a"), mark("b", True), mark("d"), mark("e")])

    def test_as_they_stand_in_the_text(self):
        for tree in small_trees() + tall_trees():
            with self.subTest(tree):
                told = marks_of(tree)
                self.assertEqual(told, [one for one in pieces(shown_pattern(tree)) if isinstance(one, tuple)])
                self.assertEqual([one[1] for one in told], [name_at(place) for place in range(len(told))])

    def test_alike_ones_as_often(self):
        self.assertEqual(marks_of(read_pattern("a.a")), [A, A])
        self.assertEqual(marks_of(read_pattern("a|b.a*|a")), [A, B, A, A])
        self.assertEqual(marks_of(("row", ("or", A, A), ("or", A, A))), [A, A, A, A])

    def test_the_list_told_is_the_askers_own(self):
        for tree in (A, ("row", A, B), ("many", ("or", A, A))):
            ahead = marks_of(tree)
            told = marks_of(tree)
            self.assertIs(told.__class__, list)
            self.assertIsNot(told, ahead)
            told.append(C)
            told.insert(0, C)
            self.assertEqual(marks_of(tree), ahead)
            told.clear()
            self.assertEqual(marks_of(tree), ahead)


class Great(unittest.TestCase):
    """[0.7]: 24 marks, and 48 deep."""

    def test_24_marks(self):
        tree = A
        other = A
        for turn in range(23):
            tree = ("row", tree, A)
            other = ("row", A, other)
        tree = in_turn(tree)
        other = in_turn(other)
        self.assertEqual(len(marks_of(tree)), 24)
        self.assertEqual(marks_of(tree), marks_of(other))
        backwards = [(one[0], one[1], not one[2], one[3], one[4]) for one in reversed(marks_of(tree))]
        self.assertEqual(marks_of(turned(tree)), backwards)
        self.assertEqual(marks_of(turned(other)), backwards)
        self.assertEqual(turned(turned(tree)), tree)

    def test_48_deep(self):
        tree = A
        other = BACK_A
        for turn in range(47):
            tree = (REPEATS[turn % 3], tree)
            other = (REPEATS[turn % 3], other)
        self.assertEqual(turned(tree), other)
        self.assertEqual(marks_of(tree), [A])

    def test_24_marks_and_48_deep(self):
        tree = ("many", A)
        other = ("many", BACK_A)
        for turn in range(23):
            tree = ("some", ("row", tree, B))
            other = ("some", ("row", BACK_B, other))
        self.assertEqual(turned(tree), other)
        self.assertEqual(turned(other), tree)
        self.assertEqual(marks_of(tree), [A] + [B] * 23)
        self.assertEqual(marks_of(other), [BACK_B] * 23 + [BACK_A])


if __name__ == "__main__":
    unittest.main()
