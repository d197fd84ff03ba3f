import unittest

from tieseek.errors import NoPattern, NoPiece, TooGreat
from tieseek.pattern import read_pattern

from helper import mark, name_at, refused

A, B, C, D, E = [mark(name) for name in "abcde"]


def joined(count, sign):
    """That many unlike marks with the sign between them."""
    return sign.join([name_at(place) for place in range(count)])


def left_tree(count, kind):
    """That many unlike marks, the left two together first."""
    tree = mark(name_at(0))
    for place in range(1, count):
        tree = (kind, tree, mark(name_at(place)))
    return tree


class Read(unittest.TestCase):
    """[3.2]"""

    def check(self, *pairs):
        for text, tree in pairs:
            with self.subTest(text):
                self.assertEqual(read_pattern(text), tree)

    def test_marks(self):
        self.check(
            ("a", A), ("<a", mark("a", True)), ("_", mark("_")), ("<_", mark("_", True)),
            ("abcdefghijkl", mark("abcdefghijkl")), ("near[<3]", mark("near", False, "<", 3)),
            ("<_[!-13]", mark("_", True, "!", -13)), ("a[=0]", mark("a", False, "=", 0)),
            ("a[>" + "9" * 60 + "]", mark("a", False, ">", 10 ** 60 - 1)),
        )

    def test_rows(self):
        self.check(
            ("a.b", ("row", A, B)), ("a.b.c", ("row", ("row", A, B), C)),
            ("a.b.c.d", ("row", ("row", ("row", A, B), C), D)),
            ("a.a.a", ("row", ("row", A, A), A)),
            ("<a._", ("row", mark("a", True), mark("_"))),
        )

    def test_ors(self):
        self.check(
            ("a|b", ("or", A, B)), ("a|b|c", ("or", ("or", A, B), C)),
            ("a|b|c|d", ("or", ("or", ("or", A, B), C), D)),
            ("a|a", ("or", A, A)),
        )

    def test_many_in_a_row_and_an_or(self):
        for count in (5, 12, 24):
            self.check((joined(count, "."), left_tree(count, "row")), (joined(count, "|"), left_tree(count, "or")))

    def test_row_ahead_of_or(self):
        self.check(
            ("a.b|c", ("or", ("row", A, B), C)), ("a|b.c", ("or", A, ("row", B, C))),
            ("a.b|c.d", ("or", ("row", A, B), ("row", C, D))),
            ("a|b.c|d", ("or", ("or", A, ("row", B, C)), D)),
            ("a.b.c|d.e", ("or", ("row", ("row", A, B), C), ("row", D, E))),
            ("a|b|c.d.e", ("or", ("or", A, B), ("row", ("row", C, D), E))),
        )

    def test_signs_behind(self):
        self.check(
            ("a*", ("many", A)), ("a+", ("some", A)), ("a?", ("maybe", A)),
            ("<a[<1]*", ("many", mark("a", True, "<", 1))), ("_?", ("maybe", mark("_"))),
        )

    def test_several_signs_behind(self):
        self.check(
            ("a**", ("many", ("many", A))), ("a*+", ("some", ("many", A))), ("a+*", ("many", ("some", A))),
            ("a?*+", ("some", ("many", ("maybe", A)))), ("a+?*", ("many", ("maybe", ("some", A)))),
            ("a???", ("maybe", ("maybe", ("maybe", A)))),
            ("(a)*+", ("some", ("many", A))), ("(a.b)?+", ("some", ("maybe", ("row", A, B)))),
            ("(a*)+", ("some", ("many", A))), ("((a?)*)+?", ("maybe", ("some", ("many", ("maybe", A))))),
        )

    def test_signs_hold_to_the_single_pattern(self):
        self.check(
            ("a.b*", ("row", A, ("many", B))), ("a*.b", ("row", ("many", A), B)),
            ("a|b+", ("or", A, ("some", B))), ("a?|b", ("or", ("maybe", A), B)),
            ("a+.b?.c*", ("row", ("row", ("some", A), ("maybe", B)), ("many", C))),
            ("(a.b)*", ("many", ("row", A, B))), ("(a|b)+.c", ("row", ("some", ("or", A, B)), C)),
            ("a.(b|c)?", ("row", A, ("maybe", ("or", B, C)))),
        )

    def test_brackets(self):
        self.check(
            ("a.(b.c)", ("row", A, ("row", B, C))), ("a|(b|c)", ("or", A, ("or", B, C))),
            ("(a|b).c", ("row", ("or", A, B), C)), ("a.(b|c)", ("row", A, ("or", B, C))),
            ("(a|b).(c|d)", ("row", ("or", A, B), ("or", C, D))),
            ("a.(b.(c.d))", ("row", A, ("row", B, ("row", C, D)))),
            ("a.(b.c).d", ("row", ("row", A, ("row", B, C)), D)),
            ("((a|b).c|d).e", ("row", ("or", ("row", ("or", A, B), C), D), E)),
            ("(a.(b|c)*)+", ("some", ("row", A, ("many", ("or", B, C))))),
        )

    def test_brackets_that_change_nothing(self):
        self.check(
            ("(a)", A), ("((a))", A), ("(((<a[<1])))", mark("a", True, "<", 1)),
            ("(a.b)", ("row", A, B)), ("(a.b).c", ("row", ("row", A, B), C)), ("(a|b)|c", ("or", ("or", A, B), C)),
            ("(a).(b)", ("row", A, B)), ("(a)|(b.c)", ("or", A, ("row", B, C))), ("(a)*", ("many", A)),
            ("((a)*)", ("many", A)), ("((a.b).(c))", ("row", ("row", A, B), C)),
            ("(((a)|(b)))", ("or", A, B)),
        )

    def test_kinds(self):
        tree = read_pattern("(a|<b[<1])*.c")
        self.assertIs(tree.__class__, tuple)
        self.assertIs(tree[1].__class__, tuple)
        self.assertIs(tree[1][1].__class__, tuple)
        self.assertIs(tree[2].__class__, tuple)

    def test_read_twice(self):
        self.assertEqual(read_pattern("a.b*"), read_pattern("a.b*"))


class Bounds(unittest.TestCase):
    """[3.2], [0.7]"""

    def test_48_pieces(self):
        for text in ("a" + "*" * 47, joined(24, ".") + "?", joined(24, "|") + "+", "(" * 23 + "a" + ")" * 23 + "*",
                     "<_[<-1]" + "+" * 47, "(" + joined(23, ".") + ")*"):
            with self.subTest(text):
                self.assertIs(read_pattern(text).__class__, tuple)

    def test_49_pieces(self):
        for text in ("a" + "*" * 48, joined(25, "."), joined(25, "|"), "(" * 24 + "a" + ")" * 24,
                     "(" + joined(23, ".") + ")**+"):
            with self.subTest(text):
                refused(self, TooGreat, read_pattern, text)

    def test_many_more(self):
        for text in ("a" + "*" * 5000, joined(600, "."), "(" * 2000 + "a" + ")" * 2000):
            refused(self, TooGreat, read_pattern, text)

    def test_pieces_are_counted_not_signs(self):
        long_mark = "<abcdefghijkl[<-" + "9" * 60 + "]"
        tree = read_pattern(".".join([long_mark] * 24))
        self.assertEqual(tree[2], mark("abcdefghijkl", True, "<", -(10 ** 60 - 1)))
        refused(self, TooGreat, read_pattern, ".".join([long_mark] * 25))

    def test_deep_trees(self):
        tree = A
        for sign in "*+?" * 15 + "*+":
            tree = ({"*": "many", "+": "some", "?": "maybe"}[sign], tree)
        self.assertEqual(read_pattern("a" + "*+?" * 15 + "*+"), tree)
        self.assertEqual(read_pattern("(" * 23 + "a" + ")" * 23), A)

    def test_deep_brackets(self):
        tree = mark("b")
        for turn in range(11):
            tree = ("row", A, tree)
        # 12 marks, 11 signs and 10 pairs of brackets.
        self.assertEqual(read_pattern("a.(" * 10 + "a.b" + ")" * 10), tree)


class Refused(unittest.TestCase):
    """[3.2]: refused with NoPattern."""

    def check_refused(self, *texts):
        for text in texts:
            with self.subTest(text):
                refused(self, NoPattern, read_pattern, text)

    def test_empty(self):
        self.check_refused("", "()", "(())", "a.()", "().a", "()*", "a|()", "()|a", "(()a)", "a()", "()a")

    def test_brackets_not_shut(self):
        self.check_refused("(", "((", "(a", "((a)", "(a.b", "(a|b", "a.(b", "(a*", "(a.(b)", "(" * 48, "a(")

    def test_brackets_not_open(self):
        self.check_refused(")", "))", "a)", "(a))", "a.b)", "a|b)", "a)*", "a).b", ")a", ")(", "a)(b", ")a(", ")" * 48)

    def test_signs_at_the_beginning(self):
        for sign in "*+?":
            self.check_refused(sign, sign + "a", sign + "(a)", "(" + sign + ")", "(" + sign + "a)", "a.(" + sign + "b)")

    def test_signs_behind_another_sign(self):
        for sign in "*+?":
            for ahead in ("a.", "a|", "(a).", "a*|", "a.b.", "a|b|"):
                self.check_refused(ahead + sign, ahead + sign + "b", "(" + ahead + sign + "b)")

    def test_dots_and_bars_at_an_end(self):
        for sign in ".|":
            self.check_refused(sign, sign + "a", "a" + sign, sign + "a.b", "a|b" + sign, "(" + sign + "a)",
                               "(a" + sign + ")", "(" + sign + ")", sign + "(a)", "(a)" + sign, "a*" + sign)

    def test_dots_and_bars_side_by_side(self):
        for sign in ("..", "||", ".|", "|.", "...", "|||"):
            self.check_refused(sign, "a" + sign + "b", "(a" + sign + "b)", "a*" + sign + "b", "(a)" + sign + "(b)")

    def test_marks_side_by_side(self):
        self.check_refused("a<b", "_ab", "ab_", "a_b", "__", "a[<1]b", "<a<b", "a.b<c", "a|_b", "(a<b)", "a*b", "a+_",
                           "a?<b", "a.b_.c")

    def test_marks_beside_brackets(self):
        self.check_refused("a(b)", "(a)b", "(a)(b)", "a(b", "_(a)", "(a)_", "(a)<b", "(a)*b", "a*(b)", "(a)*(b)",
                           "a.b(c)", "(a|b)c.d", "a[<1](b)", "(a(b))", "((a)b)")

    def test_48_pieces(self):
        self.check_refused("." * 48, "*" * 48, "a" + "." * 47, "(" * 24 + ")" * 24)


class FirstToldGoesFirst(unittest.TestCase):
    """[3.2]: NoPiece, then TooGreat, then NoPattern."""

    def test_no_piece_ahead_of_no_pattern(self):
        for text in (" ", "a b", "( ", "*A", "a. ", ") ", "..7", "a<", "()#", "[<1]", "a[<1"):
            with self.subTest(text):
                refused(self, NoPiece, read_pattern, text)

    def test_no_piece_ahead_of_too_great(self):
        for text in ("a" + "*" * 48 + " ", " a" + "*" * 48, joined(20, ".") + "#" + joined(20, "."),
                     joined(30, ".") + "<", joined(30, ".") + ".abcdefghijklm", "." * 3000 + "A", "(" * 3000 + "a[<01]"):
            with self.subTest(text):
                refused(self, NoPiece, read_pattern, text)

    def test_too_great_ahead_of_no_pattern(self):
        for text in ("." * 49, "(" * 49, ")" * 49, "*" * 49, "_" * 49, joined(24, ".") + "..", "(" * 25 + ")" * 25,
                     "." * 5000, "(" * 5000, ")" * 5000):
            with self.subTest(text):
                refused(self, TooGreat, read_pattern, text)


if __name__ == "__main__":
    unittest.main()
