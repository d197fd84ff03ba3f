import unittest

from tieseek.errors import Full, NoKey, NoName, NoRow, NoThing, NoTie, StillTied, Twice
from tieseek.rows import done_row, done_rows
from tieseek.web import Web

from helper import name_at, next_number, refused_unchanged, shown, small_web, web_of_things, web_of_ties

ROWS = [
    "thing oak", "set oak age 3", "tie oak near sun -5", "set sun heat 1", "take sun age", "cut 0", "drop ash",
    "thing ash", "tie ash near ash 0",
]
# Rows that are refused right away and at the end of ROWS, with the refusal.
REFUSED = (
    (NoRow, "things elder"), (NoRow, "set sun age 01"), (NoRow, ""), (NoName, "thing Elder"), (NoThing, "drop elder"),
    (NoKey, "take sun mass"), (NoTie, "cut 1"), (Twice, "thing sun"), (StillTied, "drop elm"),
)


def refusals_at_each_place():
    """Lists of rows with a refused one at the first, at a middle and at the last place, with the refusal."""
    return [(error, ROWS[:place] + [row] + ROWS[place:]) for error, row in REFUSED for place in (0, 4, len(ROWS))]


class AllDone(unittest.TestCase):
    """[2.2]"""

    def test_told_web(self):
        told = done_rows(small_web(), ROWS)
        self.assertIs(told.__class__, Web)
        self.assertEqual(told.things(), ["sun", "elm", "oak", "ash"])
        self.assertEqual([told.values_of(name) for name in told.things()],
                         [[("heat", 1)], [("age", 7)], [("age", 3)], []])
        self.assertEqual(told.ties(), [2, 3, 4, 5])
        self.assertEqual(told.tie(4), ("oak", "near", "sun", -5))
        self.assertEqual(told.tie(5), ("ash", "near", "ash", 0))

    def test_like_one_by_one(self):
        web = small_web()
        for count in range(len(ROWS) + 1):
            self.assertEqual(shown(done_rows(small_web(), ROWS[:count])), shown(web))
            self.assertEqual(next_number(done_rows(small_web(), ROWS[:count])), next_number(web))
            if count < len(ROWS):
                done_row(web, ROWS[count])

    def test_the_web_handed_in_stays(self):
        web = small_web()
        done_rows(web, ROWS)
        self.assertEqual(shown(web), shown(small_web()))
        self.assertEqual(next_number(web), 4)

    def test_the_rows_handed_in_stay(self):
        given = list(ROWS)
        done_rows(small_web(), given)
        self.assertEqual(given, ROWS)

    def test_each_row_is_done_just_once(self):
        self.assertEqual(done_rows(web_of_ties(0), ["tie a on b 1"] * 3).ties(), [0, 1, 2])

    def test_order_of_rows(self):
        self.assertEqual(done_rows(Web(), ["thing b", "thing a"]).things(), ["b", "a"])
        told = done_rows(Web(), ["thing a", "set a k 1", "set a k 2"])
        self.assertEqual(told.values_of("a"), [("k", 2)])

    def test_no_rows_at_all(self):
        for web in (Web(), small_web(), web_of_things(100), web_of_ties(400)):
            told = done_rows(web, [])
            self.assertIsNot(told, web)
            self.assertEqual(shown(told), shown(web))
            self.assertEqual(next_number(told), next_number(web))

    def test_ties_are_numbered_on(self):
        self.assertEqual(done_rows(small_web(), ["tie sun on ash 1"]).ties(), [0, 2, 3, 4])
        web = web_of_ties(5)
        for number in range(5):
            web.cut_tie(number)
        self.assertEqual(done_rows(web, ["tie a on b 1", "cut 5", "tie a on b 1"]).ties(), [6])
        self.assertEqual(web.add_tie("a", "on", "b"), 5)

    def test_bounds(self):
        rows = [f"thing {name_at(place)}" for place in range(100)]
        self.assertEqual(len(done_rows(Web(), rows).things()), 100)
        ties = ["tie a on b 0"] * 400
        self.assertEqual(len(done_rows(web_of_ties(0), ties).ties()), 400)
        web = web_of_ties(0)
        refused_unchanged(self, web, Full, done_rows, web, ties + ["tie a on b 0"])
        self.assertEqual(done_rows(web, ties + ["cut 7", "tie a on b 0"]).ties()[-1], 400)


class Apart(unittest.TestCase):
    """[2.2], [0.3]: what is told and what was handed in have nothing in common."""

    def test_done_to_the_web_told(self):
        for rows in ([], ["set sun heat 1"], ["cut 0", "tie sun on ash 1"]):
            web = small_web()
            told = done_rows(web, rows)
            for row in ROWS[:4] + ["take elm age", "cut 3"]:
                done_row(told, row)
            self.assertEqual(shown(web), shown(small_web()))
            self.assertEqual(next_number(web), 4)

    def test_done_to_the_web_handed_in(self):
        for rows in ([], ["set sun heat 1"], ["cut 0", "tie sun on ash 1"]):
            web = small_web()
            told = done_rows(web, rows)
            ahead = (shown(told), next_number(told))
            for row in ROWS[:4] + ["take elm age", "cut 3"]:
                done_row(web, row)
            self.assertEqual((shown(told), next_number(told)), ahead)

    def test_done_to_the_rows_handed_in(self):
        given = list(ROWS)
        told = done_rows(small_web(), given)
        ahead = shown(told)
        given.clear()
        self.assertEqual(shown(told), ahead)

    def test_two_told_webs(self):
        web = small_web()
        one = done_rows(web, ROWS)
        other = done_rows(web, ROWS)
        self.assertIsNot(one, other)
        one.set_value("oak", "age", 99)
        self.assertEqual(other.value("oak", "age"), 3)


class Refused(unittest.TestCase):
    """[2.2]: where a row is refused, the whole is."""

    def test_at_each_place(self):
        for error, rows in refusals_at_each_place():
            with self.subTest(rows):
                given = list(rows)
                web = small_web()
                refused_unchanged(self, web, error, done_rows, web, given)
                self.assertEqual(shown(web), shown(small_web()))
                self.assertEqual(given, rows)

    def test_the_first_refusal(self):
        for error, row in REFUSED:
            for other_error, other in REFUSED:
                for between in ([], ROWS):
                    web = small_web()
                    with self.subTest(first=row, then=other):
                        refused_unchanged(self, web, error, done_rows, web, [row] + between + [other])

    def test_refused_by_what_a_row_ahead_did(self):
        for error, rows in (
            (Twice, ["thing oak", "thing oak"]),
            (NoThing, ["thing oak", "drop oak", "drop oak"]),
            (NoTie, ["cut 0", "cut 0"]),
            (NoKey, ["take sun age", "take sun age"]),
            (StillTied, ["thing oak", "tie oak on oak 0", "drop oak"]),
        ):
            with self.subTest(rows):
                web = small_web()
                refused_unchanged(self, web, error, done_rows, web, rows)

    def test_full(self):
        web = web_of_things(99)
        refused_unchanged(self, web, Full, done_rows, web, ["thing more", "thing again"])
        self.assertEqual(len(web.things()), 99)

    def test_one_row_of_several_lines(self):
        web = small_web()
        refused_unchanged(self, web, NoName, done_rows, web, ["thing oak\nthing"])
        refused_unchanged(self, web, NoRow, done_rows, web, ["thing oak\nthing elder"])


if __name__ == "__main__":
    unittest.main()
