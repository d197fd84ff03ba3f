import unittest

from tieseek.errors import NoPattern, TooGreat
from tieseek.pattern import read_pattern, shown_pattern

from helper import GREATEST, REPEATS, in_turn, mark, refused, small_trees, tall_trees

A, B, C, D = [mark(name) for name in "abcd"]


def bracket_pairs(text):
    """The places of each bracket and of the one that shuts it."""
    still_open = []
    pairs = []
    for place, sign in enumerate(text):
        if sign == "(":
            still_open.append(place)
        if sign == ")":
            pairs.append((still_open.pop(), place))
    return pairs


def alike_marks(tree):
    if tree[0] == "mark":
        return A
    return (tree[0],) + tuple([alike_marks(part) for part in tree[1:]])


def read_or_none(text):
    try:
        return read_pattern(text)
    except NoPattern:
        return None


class Shown(unittest.TestCase):
    """[3.3]"""

    def check(self, *pairs):
        for tree, text in pairs:
            with self.subTest(text):
                self.assertEqual(shown_pattern(tree), text)

    def test_marks(self):
        self.check(
            (A, "a"), (mark("a", True), "<a"), (mark("_"), "_"), (mark("_", True), "<_"),
            (mark("abcdefghijkl"), "abcdefghijkl"),
        )

    def test_conditions(self):
        for sign in "<>=!":
            for number in (0, 1, -1, 120, -120, GREATEST, -GREATEST):
                self.check(
                    (mark("near", False, sign, number), f"near[{sign}{number}]"),
                    (mark("_", True, sign, number), f"<_[{sign}{number}]"),
                )

    def test_without_brackets(self):
        self.check(
            (("row", A, B), "a.b"), (("or", A, B), "a|b"), (("many", A), "a*"), (("some", A), "a+"),
            (("maybe", A), "a?"),
            (("row", ("row", A, B), C), "a.b.c"), (("or", ("or", A, B), C), "a|b|c"),
            (("or", ("row", A, B), C), "a.b|c"), (("or", A, ("row", B, C)), "a|b.c"),
            (("or", ("row", A, B), ("row", C, D)), "a.b|c.d"),
            (("row", ("many", A), ("some", B)), "a*.b+"), (("or", ("maybe", A), ("many", B)), "a?|b*"),
            (("maybe", ("some", ("many", A))), "a*+?"), (("many", ("many", A)), "a**"),
        )

    def test_with_brackets(self):
        self.check(
            (("row", A, ("row", B, C)), "a.(b.c)"), (("or", A, ("or", B, C)), "a|(b|c)"),
            (("row", ("or", A, B), C), "(a|b).c"), (("row", A, ("or", B, C)), "a.(b|c)"),
            (("many", ("row", A, B)), "(a.b)*"), (("some", ("or", A, B)), "(a|b)+"),
            (("maybe", ("row", ("or", A, B), C)), "((a|b).c)?"),
            (("some", ("many", ("or", A, B))), "(a|b)*+"),
            (("row", ("row", A, ("row", B, C)), D), "a.(b.c).d"),
            (("or", A, ("or", ("row", B, C), D)), "a|(b.c|d)"),
        )

    def test_kind(self):
        self.assertIs(shown_pattern(A).__class__, str)
        self.assertIs(shown_pattern(("many", ("row", A, B))).__class__, str)


class ReadBack(unittest.TestCase):
    """[3.3]: for all kinds of pattern within all kinds, left and right."""

    def test_the_same_tree(self):
        for tree in small_trees() + tall_trees():
            with self.subTest(tree):
                self.assertEqual(read_pattern(shown_pattern(tree)), tree)

    def test_alike_marks(self):
        for tree in small_trees():
            alike = alike_marks(tree)
            self.assertEqual(read_pattern(shown_pattern(alike)), alike)

    def test_no_bracket_can_be_left_out(self):
        seen = 0
        for tree in small_trees() + tall_trees():
            text = shown_pattern(tree)
            for left, right in bracket_pairs(text):
                without = text[:left] + text[left + 1:right] + text[right + 1:]
                with self.subTest(text=text, without=without):
                    self.assertNotEqual(read_or_none(without), tree)
                seen += 1
        self.assertGreater(seen, 500)

    def test_no_two_brackets_around_the_same(self):
        for tree in small_trees() + tall_trees():
            pairs = bracket_pairs(shown_pattern(tree))
            self.assertFalse([pair for pair in pairs if (pair[0] + 1, pair[1] - 1) in pairs])

    def test_no_blanks(self):
        for tree in small_trees() + tall_trees():
            self.assertRegex(shown_pattern(tree), r"\A[a-z.|*+?()<>=!\[\]0-9-]+\Z")

    def test_shown_anew(self):
        for text in ("(a)", "((a.b)).c", "(a*)+", "(a|b)|(c)", "(a.b)|(c.d)", "((a))*"):
            shown = shown_pattern(read_pattern(text))
            self.assertEqual(shown_pattern(read_pattern(shown)), shown)
            self.assertNotIn("(", shown)


class Great(unittest.TestCase):
    """[0.7], [3.3]: 24 marks, and 48 deep."""

    def test_24_marks(self):
        for kind, sign in (("row", "."), ("or", "|")):
            tree = A
            for turn in range(23):
                tree = (kind, tree, B)
            self.assertEqual(shown_pattern(tree), "a" + (sign + "b") * 23)
            self.assertEqual(read_pattern(shown_pattern(tree)), tree)

    def test_24_marks_to_the_right(self):
        for kind, sign in (("row", "."), ("or", "|")):
            tree = A
            for turn in range(23):
                tree = (kind, B, tree)
            text = ("b" + sign + "(") * 22 + "b" + sign + "a" + ")" * 22
            self.assertEqual(shown_pattern(tree), text)
            # 24 marks, 23 signs and 22 pairs of brackets are more than 48 pieces.
            refused(self, TooGreat, read_pattern, text)

    def test_48_deep(self):
        tree = mark("a", True, "<", 1)
        text = "<a[<1]"
        for turn in range(47):
            tree = (REPEATS[turn % 3], tree)
            text = text + "*+?"[turn % 3]
        self.assertEqual(shown_pattern(tree), text)
        self.assertEqual(read_pattern(text), tree)

    def test_24_marks_and_48_deep(self):
        tree = ("many", A)
        text = "a*"
        for turn in range(23):
            tree = ("some", ("row", tree, B))
            text = f"({text}.b)+"
        self.assertEqual(shown_pattern(tree), text)
        refused(self, TooGreat, read_pattern, text)

    def test_somewhat_deeper(self):
        tree = A
        for turn in range(60):
            tree = ("maybe", tree)
        self.assertEqual(shown_pattern(tree), "a" + "?" * 60)

    def test_showing_changes_nothing(self):
        tree = in_turn(("row", ("many", A), ("or", A, A)))
        ahead = in_turn(("row", ("many", A), ("or", A, A)))
        shown_pattern(tree)
        self.assertEqual(tree, ahead)
        self.assertEqual(shown_pattern(tree), shown_pattern(tree))


if __name__ == "__main__":
    unittest.main()
