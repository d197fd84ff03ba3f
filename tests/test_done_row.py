import unittest

from tieseek.errors import Full, NoKey, NoName, NoRow, NoThing, NoTie, StillTied, Twice
from tieseek.rows import done_row

from helper import (
    BAD_NAMES, BAD_NUMBERS, GREATEST, next_number, refused_unchanged, shown, small_web, web_of_things, web_of_ties,
)

# A good row of each deed for small_web.
GOOD = ("thing oak", "drop oak", "set sun age 1", "take sun age", "tie sun on ash 1", "cut 0")


def web_with_oak():
    web = small_web()
    web.add_thing("oak")
    return web


def words_of(deed):
    """The words of the deed's good row."""
    return [row.split(" ") for row in GOOD if row.split(" ")[0] == deed][0]


class Deeds(unittest.TestCase):
    """[2.1]: each deed by its row is the web's own."""

    def check_same(self, row, call, *given):
        """Asks that the row does and tells on one web what the call does on another one that is alike."""
        web = web_with_oak()
        other = web_with_oak()
        told = done_row(web, row)
        self.assertEqual(told, getattr(other, call)(*given))
        self.assertEqual(shown(web), shown(other))
        self.assertEqual(next_number(web), next_number(other))
        self.assertNotEqual((shown(web), next_number(web)), (shown(web_with_oak()), next_number(web_with_oak())))
        return told

    def test_thing(self):
        self.assertIsNone(self.check_same("thing elder", "add_thing", "elder"))
        self.assertIsNone(self.check_same("thing a", "add_thing", "a"))
        self.assertIsNone(self.check_same("thing abcdefghijkl", "add_thing", "abcdefghijkl"))
        self.assertIsNone(self.check_same("thing thing", "add_thing", "thing"))

    def test_drop(self):
        self.assertIsNone(self.check_same("drop oak", "drop_thing", "oak"))

    def test_set(self):
        self.assertIsNone(self.check_same("set sun bulk 12", "set_value", "sun", "bulk", 12))
        self.assertIsNone(self.check_same("set sun heat -9", "set_value", "sun", "heat", -9))
        self.assertIsNone(self.check_same("set oak set 0", "set_value", "oak", "set", 0))
        self.assertIsNone(self.check_same("set ash k " + "9" * 60, "set_value", "ash", "k", GREATEST))
        self.assertIsNone(self.check_same("set ash k -" + "9" * 60, "set_value", "ash", "k", -GREATEST))

    def test_take(self):
        self.assertIsNone(self.check_same("take sun heat", "take_value", "sun", "heat"))
        self.assertIsNone(self.check_same("take elm age", "take_value", "elm", "age"))

    def test_tie(self):
        self.assertEqual(self.check_same("tie sun on oak 12", "add_tie", "sun", "on", "oak", 12), 4)
        self.assertEqual(self.check_same("tie oak warms sun -1", "add_tie", "oak", "warms", "sun", -1), 4)
        self.assertEqual(self.check_same("tie elm near elm 0", "add_tie", "elm", "near", "elm", 0), 4)
        self.assertEqual(self.check_same("tie sun on ash " + "9" * 60, "add_tie", "sun", "on", "ash", GREATEST), 4)
        self.assertEqual(self.check_same("tie sun on ash -" + "9" * 60, "add_tie", "sun", "on", "ash", -GREATEST), 4)

    def test_tie_tells_rising_numbers(self):
        web = web_of_ties(0)
        self.assertEqual([done_row(web, "tie a on b 1") for turn in range(3)], [0, 1, 2])
        self.assertIs(done_row(web, "tie a on b 1").__class__, int)
        self.assertIsNone(done_row(web, "cut 3"))
        self.assertEqual(done_row(web, "tie a on b 1"), 4)

    def test_cut(self):
        for number in (0, 2, 3):
            self.assertIsNone(self.check_same(f"cut {number}", "cut_tie", number))
        web = web_of_ties(13)
        self.assertIsNone(done_row(web, "cut 12"))
        self.assertEqual(web.ties(), list(range(12)))

    def test_changes_the_web_itself(self):
        web = small_web()
        for row in GOOD:
            done_row(web, row)
        self.assertEqual(web.things(), ["sun", "ash", "elm"])
        self.assertEqual(web.values_of("sun"), [("heat", 9)])
        self.assertEqual(web.ties(), [2, 3, 4])
        self.assertEqual(web.tie(4), ("sun", "on", "ash", 1))


class NoRowAtAll(unittest.TestCase):
    """[2.1]: refused with NoRow, and nothing is changed."""

    def check_refused(self, row, web=None):
        with self.subTest(row):
            web = web or web_with_oak()
            refused_unchanged(self, web, NoRow, done_row, web, row)

    def test_good_rows_are_taken(self):
        # What the refusals below start from.
        for row in GOOD:
            done_row(web_with_oak() if row != "thing oak" else small_web(), row)

    def test_empty_text_and_blanks(self):
        for row in ("", " ", "  ", "   ", "    ", "\n", "\t", "\n\n"):
            self.check_refused(row)

    def test_another_first_word(self):
        for word in ("", "things", "thin", "add", "way", "has", "value", "add_thing", "0", "-", "None", "?"):
            for row in GOOD:
                self.check_refused(" ".join([word] + row.split(" ")[1:]))

    def test_first_word_alone(self):
        for row in GOOD:
            self.check_refused(row.split(" ")[0])

    def test_another_deeds_first_word(self):
        for word in ("thing", "drop", "set", "take", "tie", "cut"):
            for row in GOOD:
                words = row.split(" ")
                if len(words) != len(words_of(word)) or (word == "cut" and words[0] != "cut"):
                    self.check_refused(" ".join([word] + words[1:]))

    def test_a_word_more(self):
        for row in GOOD:
            for word in ("a", "sun", "0", "1", "-1", "?", "age 1"):
                self.check_refused(row + " " + word)

    def test_a_word_fewer(self):
        for row in GOOD:
            words = row.split(" ")
            for place in range(len(words)):
                self.check_refused(" ".join(words[:place] + words[place + 1:]))

    def test_tie_without_weight(self):
        self.check_refused("tie sun on ash")

    def test_blank_more(self):
        for row in GOOD:
            self.check_refused(" " + row)
            self.check_refused(row + " ")
            self.check_refused(" " + row + " ")
            for place, sign in enumerate(row):
                if sign == " ":
                    self.check_refused(row[:place] + " " + row[place:])

    def test_another_sign_for_a_blank(self):
        for row in GOOD:
            for place, sign in enumerate(row):
                if sign == " ":
                    for other in ("\t", "\n", "_", ",", "", "\n\n"):
                        self.check_refused(row[:place] + other + row[place + 1:])

    def test_line_feed_or_tab_ahead(self):
        for row in GOOD:
            self.check_refused("\n" + row)
            self.check_refused("\t" + row)

    def test_capital(self):
        for row in GOOD:
            self.check_refused(row[0].upper() + row[1:])
            self.check_refused(row.upper())

    def test_no_written_number(self):
        for word in BAD_NUMBERS:
            self.check_refused("set sun age " + word)
            self.check_refused("tie sun on ash " + word)
            self.check_refused("cut " + word)

    def test_number_at_another_place(self):
        self.check_refused("set sun 1 age")
        self.check_refused("tie 1 sun on ash")
        self.check_refused("cut sun")


class NoRowFirst(unittest.TestCase):
    """[2.1]: ahead of NoRow nothing else is looked at."""

    def check_first(self, web, own, row, instead):
        """Asks that the row is refused with NoRow; instead is like it but for that, and is refused with own."""
        with self.subTest(row):
            refused_unchanged(self, web, NoRow, done_row, web, row)
            refused_unchanged(self, web, own, done_row, web, instead)

    def test_no_name(self):
        web = small_web()
        self.check_first(web, NoName, "thing Oak x", "thing Oak")
        self.check_first(web, NoName, "set sun Age 01", "set sun Age 1")
        self.check_first(web, NoName, "set sun Age " + "1" * 61, "set sun Age " + "1" * 60)
        self.check_first(web, NoName, "tie sun On ash -0", "tie sun On ash 0")
        self.check_first(web, NoName, "tie sun On ash", "tie sun On ash 1")

    def test_no_thing(self):
        web = small_web()
        self.check_first(web, NoThing, "drop oak x", "drop oak")
        self.check_first(web, NoThing, "set oak age +1", "set oak age 1")
        self.check_first(web, NoThing, "set oak age " + "1" * 61, "set oak age " + "1" * 60)
        self.check_first(web, NoThing, "take oak age 1", "take oak age")
        self.check_first(web, NoThing, "tie oak on sun -", "tie oak on sun -1")
        self.check_first(web, NoThing, "tie sun on oak x", "tie sun on oak 1")

    def test_twice(self):
        self.check_first(small_web(), Twice, "thing sun ", "thing sun")

    def test_full_of_things(self):
        self.check_first(web_of_things(100), Full, "thing more more", "thing more")

    def test_still_tied(self):
        self.check_first(small_web(), StillTied, "drop sun ", "drop sun")

    def test_no_key(self):
        self.check_first(small_web(), NoKey, "take sun mass 1", "take sun mass")

    def test_full_of_ties(self):
        web = web_of_ties(400)
        self.check_first(web, Full, "tie a on b 01", "tie a on b 1")
        self.check_first(web, Full, "tie a on b " + "1" * 61, "tie a on b " + "1" * 60)

    def test_no_tie(self):
        web = small_web()
        self.check_first(web, NoTie, "cut 01", "cut 1")
        self.check_first(web, NoTie, "cut 1 1", "cut 1")


class TheWebsOwnRefusals(unittest.TestCase):
    """[2.1]: the web refuses the deed by its own refusals, and nothing is changed."""

    def check_refused(self, error, row, web=None):
        with self.subTest(row):
            web = web or small_web()
            refused_unchanged(self, web, error, done_row, web, row)

    def test_thing(self):
        for name in BAD_NAMES:
            if " " not in name:
                self.check_refused(NoName, "thing " + name)
        self.check_refused(Twice, "thing sun")
        self.check_refused(Twice, "thing elm")
        self.check_refused(Full, "thing more", web_of_things(100))

    def test_drop(self):
        for name in ("oak", "", "Sun", "sun\n", "sun\t", "?", "0"):
            self.check_refused(NoThing, "drop " + name)
        self.check_refused(StillTied, "drop sun")
        self.check_refused(StillTied, "drop ash")
        self.check_refused(StillTied, "drop elm")

    def test_set(self):
        for name in ("oak", "", "Sun", "sun\t"):
            self.check_refused(NoThing, f"set {name} age 1")
        for key in BAD_NAMES:
            if " " not in key:
                self.check_refused(NoName, f"set sun {key} 1")

    def test_take(self):
        for name in ("oak", "", "Sun"):
            self.check_refused(NoThing, f"take {name} age")
        for key in ("mass", "", "Age", "age\n"):
            self.check_refused(NoKey, f"take sun {key}")
        self.check_refused(NoKey, "take ash age")

    def test_tie(self):
        for name in ("oak", "", "Sun"):
            self.check_refused(NoThing, f"tie {name} on sun 1")
            self.check_refused(NoThing, f"tie sun on {name} 1")
        for name in BAD_NAMES:
            if " " not in name:
                self.check_refused(NoName, f"tie sun {name} ash 1")
        self.check_refused(Full, "tie a on b 1", web_of_ties(400))

    def test_cut(self):
        for number in ("1", "4", "-1", "-3", "9" * 60, "-" + "9" * 60):
            self.check_refused(NoTie, "cut " + number)

    def test_first_told_goes_first(self):
        self.check_refused(NoThing, "set oak Age 1")
        self.check_refused(NoThing, "tie oak On sun 1")
        self.check_refused(NoThing, "tie oak on b 1", web_of_ties(400))
        self.check_refused(NoName, "tie a On b 1", web_of_ties(400))
        self.check_refused(NoName, "thing More", web_of_things(100))


if __name__ == "__main__":
    unittest.main()
