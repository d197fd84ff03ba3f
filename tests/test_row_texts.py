import unittest

from tieseek.rows import rows_of, text_of

PAIRS = (
    ("a", ["a"]),
    ("a\nb", ["a", "b"]),
    ("thing sun\nset sun age 7\ncut 0", ["thing sun", "set sun age 7", "cut 0"]),
    ("\n", ["", ""]),
    ("\n\n", ["", "", ""]),
    ("\n\n\n\n", ["", "", "", "", ""]),
    ("a\n", ["a", ""]),
    ("\na", ["", "a"]),
    ("\na\n", ["", "a", ""]),
    ("a\n\nb", ["a", "", "b"]),
    ("a\n\n\nb", ["a", "", "", "b"]),
    ("a\n\n", ["a", "", ""]),
    (" ", [" "]),
    (" \n ", [" ", " "]),
    (" a \n\tb\t", [" a ", "\tb\t"]),
    ("\t", ["\t"]),
    ("No row at all, ~", ["No row at all, ~"]),
)


class CutIntoRows(unittest.TestCase):
    """[2.4]"""

    def test_empty_text_has_no_rows(self):
        self.assertEqual(rows_of(""), [])

    def test_cut(self):
        for text, rows in PAIRS:
            with self.subTest(text):
                self.assertEqual(rows_of(text), rows)

    def test_cut_at_line_feeds_alone(self):
        # Python's own cutting into lines would cut at some of these, too.
        text = "".join([chr(code) for code in range(32, 127)]) + "\t"
        self.assertEqual(rows_of(text), [text])
        self.assertEqual(rows_of(text + "\n" + text), [text, text])

    def test_many_rows(self):
        self.assertEqual(rows_of("\n" * 999), [""] * 1000)
        self.assertEqual(rows_of("ab\n" * 999), ["ab"] * 999 + [""])


class PutTogether(unittest.TestCase):
    """[2.4]"""

    def test_put_together(self):
        for text, rows in PAIRS:
            with self.subTest(text):
                self.assertEqual(text_of(rows), text)

    def test_no_row_and_one_empty_row(self):
        self.assertEqual(text_of([]), "")
        self.assertEqual(text_of([""]), "")
        self.assertEqual(rows_of(text_of([])), [])
        # One empty row is told by the empty text, which has no rows.
        self.assertEqual(rows_of(text_of([""])), [])
        self.assertEqual(rows_of(text_of(["", ""])), ["", ""])

    def test_there_and_back(self):
        for text, rows in PAIRS:
            with self.subTest(text):
                self.assertEqual(text_of(rows_of(text)), text)
                self.assertEqual(rows_of(text_of(rows)), rows)


class ListsAndTexts(unittest.TestCase):
    """[0.3]"""

    def test_the_list_handed_in_stays(self):
        for given in ([], [""], ["a"], ["a", "", "b"]):
            ahead = list(given)
            told = text_of(given)
            self.assertEqual(given, ahead)
            given.append("more")
            self.assertEqual(told, "\n".join(ahead))

    def test_the_list_told_is_the_askers_own(self):
        for text in ("", "a", "a\nb", "\n"):
            ahead = rows_of(text)
            told = rows_of(text)
            self.assertIs(told.__class__, list)
            self.assertIsNot(told, ahead)
            told.append("more")
            told.insert(0, "other")
            self.assertEqual(rows_of(text), ahead)
            told.clear()
            self.assertEqual(rows_of(text), ahead)


if __name__ == "__main__":
    unittest.main()
