import unittest

from tieseek.errors import NoPiece
from tieseek.pieces import pieces

from helper import BAD_NUMBERS, GREATEST, LETTERS, SIGNS, mark, refused

SINGLE = ".|*+?()"
CONDITION = "<>=!"
# Signs with which no piece begins.
OUTSIDE = [sign for sign in SIGNS if sign not in LETTERS + SINGLE + "_<"]


class SingleSigns(unittest.TestCase):
    """[3.1]"""

    def test_each(self):
        for sign in SINGLE:
            with self.subTest(sign):
                self.assertEqual(pieces(sign), [sign])
                self.assertEqual(pieces(sign * 3), [sign] * 3)

    def test_all_side_by_side(self):
        self.assertEqual(pieces(".|*+?()"), [".", "|", "*", "+", "?", "(", ")"])
        self.assertEqual(pieces(")(?+*|."), [")", "(", "?", "+", "*", "|", "."])

    def test_around_marks(self):
        for sign in SINGLE:
            with self.subTest(sign):
                self.assertEqual(pieces("a" + sign), [mark("a"), sign])
                self.assertEqual(pieces(sign + "a"), [sign, mark("a")])
                self.assertEqual(pieces("a" + sign + "<b"), [mark("a"), sign, mark("b", True)])
                self.assertEqual(pieces("_[=1]" + sign + "_"), [mark("_", False, "=", 1), sign, mark("_")])

    def test_empty_text(self):
        self.assertEqual(pieces(""), [])


class Marks(unittest.TestCase):
    """[3.1]"""

    def test_plain(self):
        for letter in LETTERS:
            self.assertEqual(pieces(letter), [("mark", letter, False, "", 0)])
            self.assertEqual(pieces("<" + letter), [("mark", letter, True, "", 0)])
        self.assertEqual(pieces("_"), [("mark", "_", False, "", 0)])
        self.assertEqual(pieces("<_"), [("mark", "_", True, "", 0)])

    def test_kinds(self):
        for text in ("ab", "<ab", "ab[<3]", "<_[!-3]"):
            told = pieces(text)
            self.assertIs(told.__class__, list)
            self.assertIs(told[0].__class__, tuple)
            self.assertEqual([part.__class__ for part in told[0]], [str, str, bool, str, int])

    def test_conditions(self):
        for name in ("_", "a", "near", "abcdefghijkl"):
            for sign in CONDITION:
                for number in (0, 1, -1, 9, 10, -10, 305, GREATEST, -GREATEST, 10 ** 59, -(10 ** 59)):
                    text = f"{name}[{sign}{number}]"
                    with self.subTest(text):
                        self.assertEqual(pieces(text), [("mark", name, False, sign, number)])
                        self.assertEqual(pieces("<" + text), [("mark", name, True, sign, number)])

    def test_length_of_names(self):
        for name in ("a", "ab", "abcdefghijk", "abcdefghijkl"):
            with self.subTest(name):
                self.assertEqual(pieces(name), [mark(name)])
                self.assertEqual(pieces("<" + name), [mark(name, True)])
                self.assertEqual(pieces(name + "[>0]"), [mark(name, False, ">", 0)])
                self.assertEqual(pieces("(" + name + ")"), ["(", mark(name), ")"])

    def test_side_by_side(self):
        for text, told in (
            ("_ab", [mark("_"), mark("ab")]),
            ("ab_", [mark("ab"), mark("_")]),
            ("a_b", [mark("a"), mark("_"), mark("b")]),
            ("a<b", [mark("a"), mark("b", True)]),
            ("<a<b", [mark("a", True), mark("b", True)]),
            ("__", [mark("_"), mark("_")]),
            ("<__", [mark("_", True), mark("_")]),
            ("_<_", [mark("_"), mark("_", True)]),
            ("<_ab", [mark("_", True), mark("ab")]),
            ("_abcdefghijkl", [mark("_"), mark("abcdefghijkl")]),
            ("abcdefghijkl_abcdefghijkl", [mark("abcdefghijkl"), mark("_"), mark("abcdefghijkl")]),
            ("a[<1]b", [mark("a", False, "<", 1), mark("b")]),
            ("a[<1]_", [mark("a", False, "<", 1), mark("_")]),
            ("a[<1]<b[>2]", [mark("a", False, "<", 1), mark("b", True, ">", 2)]),
            ("_[=1]_[!1]", [mark("_", False, "=", 1), mark("_", False, "!", 1)]),
        ):
            with self.subTest(text):
                self.assertEqual(pieces(text), told)

    def test_long_text(self):
        self.assertEqual(pieces("a." * 3000), [mark("a"), "."] * 3000)
        self.assertEqual(pieces("(" * 5000), ["("] * 5000)
        self.assertEqual(pieces("<_[<1]" * 500), [mark("_", True, "<", 1)] * 500)

    def test_whole_pattern(self):
        self.assertEqual(pieces("(up|<up)*.near[>-3]+"), [
            "(", mark("up"), "|", mark("up", True), ")", "*", ".", mark("near", False, ">", -3), "+",
        ])

    def test_no_pattern_is_cut_all_the_same(self):
        self.assertEqual(pieces("*)a("), ["*", ")", mark("a"), "("])


class Told(unittest.TestCase):
    """[0.3]"""

    def test_the_list_told_is_the_askers_own(self):
        for text in ("", "a", "a.b", "*"):
            ahead = pieces(text)
            told = pieces(text)
            self.assertIsNot(told, ahead)
            told.append("more")
            self.assertEqual(pieces(text), ahead)
            told.clear()
            self.assertEqual(pieces(text), ahead)


class Refused(unittest.TestCase):
    """[3.1]: refused with NoPiece."""

    def check_refused(self, text):
        with self.subTest(text):
            refused(self, NoPiece, pieces, text)

    def check_all_around(self, text):
        """Asks that the text is refused by itself, and at the first, a middle and the last place."""
        for around in (text, text + "a", text + ".", "a" + text, "(" + text, "a." + text + ".b", "a.b." + text):
            self.check_refused(around)

    def test_other_signs(self):
        for sign in OUTSIDE:
            # A `[` or `]` beside a name is looked at below.
            for text in (sign, sign + ".a", "a." + sign + ".b", "a.b." + sign, "*" + sign, sign + "("):
                self.check_refused(text)

    def test_other_signs_beside_a_name(self):
        for sign in OUTSIDE:
            for text in (sign + "a", "a" + sign, "a" + sign + "b", "_" + sign, "<" + sign + "a", "a[<1]" + sign):
                self.check_refused(text)

    def test_blanks_line_feeds_tabs(self):
        for sign in (" ", "\n", "\t"):
            for good in ("a", "<a", "a.b", "(a|b)*", "<near[>-13]"):
                for place in range(len(good) + 1):
                    self.check_refused(good[:place] + sign + good[place:])

    def test_capitals_and_figures(self):
        for sign in ("A", "Z", "0", "1", "9"):
            for good in ("abc", "<ab", "(a.b)"):
                for place in range(len(good) + 1):
                    self.check_refused(good[:place] + sign + good[place:])

    def test_long_names(self):
        for name in ("a" * 13, "abcdefghijklm", "a" * 24, "a" * 5000):
            self.check_refused(name)
            self.check_refused("<" + name)
            self.check_refused(name + "[<1]")
            self.check_refused("a." + name)
            self.check_refused(name + ".a")
            self.check_refused("_" + name)

    def test_arrow_without_name(self):
        for text in ("<", "a<", "a.<", "_<", "<<", "<<a", "<<_", "a.<<b", "<.", "<.a", "<*", "<(a)", "(<)", "<|a",
                     "<[<1]", "a<[<1]", "<>", "< a", "<A", "<0", "<=a", "a.b<"):
            self.check_refused(text)

    def test_arrow_behind_the_name(self):
        self.check_refused("a<.b")
        self.check_refused("a<[=1]")

    def test_condition_not_gone_on_with(self):
        for name in ("a", "_", "<a"):
            for rest in ("[", "[]", "[<", "[<]", "[>]", "[=]", "[!]", "[<1", "[<-", "[<-]", "[1]", "[-1]", "[a]",
                         "[<a]", "[<<1]", "[<=1]", "[<>1]", "[!=1]", "[==1]", "[<1]]", "[[<1]", "[[<1]]", "[<[1]]",
                         "[<1][<2]", "[<1>2]", "[<1<]", "[1<]", "[.1]", "[~1]", "[ <1]", "[< 1]", "[<1 ]", "[<1\n]",
                         "[<1,]", "[<1)", "(<1]", "{<1}", "]", "<1]", "[<_]", "[*1]", "[<1.]", "[<1|2]"):
                self.check_refused(name + rest)
                self.check_refused("b." + name + rest)
                self.check_refused(name + rest + ".b")

    def test_condition_without_name(self):
        for text in ("[<1]", "[<1].a", "a.[<1]", "([<1])", "(a)[<1]", "a*[<1]", "<[<1]", "[<1]a"):
            self.check_refused(text)

    def test_condition_shut_later_on(self):
        for text in ("a[<1.b]", "a[<1.b[<2]", "a[.b[<1]", "a[<(1)]"):
            self.check_refused(text)

    def test_no_written_number(self):
        for number in BAD_NUMBERS:
            for sign in CONDITION:
                self.check_refused(f"a[{sign}{number}]")
                self.check_refused(f"<_[{sign}{number}]")
                self.check_refused(f"b.a[{sign}{number}].b")

    def test_a_refused_piece_at_each_place(self):
        for text in (" ", "A", "7", "]", "#", "\n"):
            self.check_all_around(text)
        for text in ("abcdefghijklm", "<.", "a[<01]", "a[]"):
            for around in (text, text + ".b", "b." + text, "(b|" + text + ")*"):
                self.check_refused(around)

    def test_far_behind(self):
        self.check_refused("a." * 3000 + " ")
        self.check_refused("(" * 5000 + "<")


if __name__ == "__main__":
    unittest.main()
