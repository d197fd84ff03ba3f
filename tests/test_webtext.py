import unittest

from tieseek.errors import Full, NoKey, NoName, NoRow, NoThing, NoTie, StillTied, Twice
from tieseek.rows import done_row, done_rows
from tieseek.web import Web
from tieseek.webtext import read_web, shown_web

from helper import GREATEST, name_at, next_number, refused, shown, small_web, web_of_things, web_of_ties, web_with

SMALL_ROWS = [
    "thing sun", "set sun age -4", "set sun heat 9", "thing ash", "thing elm", "set elm age 7",
    "tie sun warms ash 3", "tie elm near elm -2", "tie sun warms elm 3",
]


def web_of_values():
    """Values whose keys come neither rising nor falling, and one of which begins another one."""
    web = web_with(["b", "a", "c"])
    for place, key in enumerate(["m", "ab", "z", "a", "abc", "b", "aa", "abcdefghijkl"]):
        web.set_value("b", key, place - 3)
        web.set_value("c", key, 3 - place)
    web.take_value("c", "z")
    web.set_value("c", "m", 100)
    return web


def web_of_ties_alike():
    web = web_with(["b", "a"])
    for turn in range(3):
        web.add_tie("b", "on", "a", 5)
        web.add_tie("a", "on", "a", 5)
        web.add_tie("a", "on", "b", 5)
    web.cut_tie(0)
    web.cut_tie(4)
    web.cut_tie(8)
    return web


def web_of_great_numbers():
    web = web_with(["a"])
    for key, number in (("p", GREATEST), ("o", -GREATEST), ("n", 0), ("m", 10 ** 59), ("l", -(10 ** 59))):
        web.set_value("a", key, number)
        web.add_tie("a", key, "a", number)
    return web


def web_come_again():
    """A thing that was dropped and came again stands last."""
    web = web_with(["a", "b", "c"])
    web.set_value("a", "k", 1)
    web.drop_thing("a")
    web.add_thing("a")
    return web


def webs():
    return [
        Web(), web_with(["a"]), web_with(["c", "a", "b"]), small_web(), web_of_values(), web_of_ties_alike(),
        web_of_great_numbers(), web_come_again(), web_of_things(100), web_of_ties(400),
    ]


def shown_numbered_anew(web):
    """What a web tells of things, values and ties, but for the ties' numbers."""
    return (
        web.things(), [web.values_of(name) for name in web.things()], [web.tie(number) for number in web.ties()],
    )


class Shown(unittest.TestCase):
    """[2.3]"""

    def test_no_thing(self):
        self.assertEqual(shown_web(Web()), [])

    def test_things_without_values(self):
        self.assertEqual(shown_web(web_with(["c", "a", "b"])), ["thing c", "thing a", "thing b"])
        self.assertEqual(shown_web(web_come_again()), ["thing b", "thing c", "thing a"])

    def test_small_web(self):
        self.assertEqual(shown_web(small_web()), SMALL_ROWS)

    def test_values_by_rising_keys(self):
        self.assertEqual(shown_web(web_of_values()), [
            "thing b", "set b a 0", "set b aa 3", "set b ab -2", "set b abc 1", "set b abcdefghijkl 4", "set b b 2",
            "set b m -3", "set b z -1",
            "thing a",
            "thing c", "set c a 0", "set c aa -3", "set c ab 2", "set c abc -1", "set c abcdefghijkl -4", "set c b -2",
            "set c m 100",
        ])

    def test_ties_by_rising_number(self):
        self.assertEqual(shown_web(web_of_ties_alike()), [
            "thing b", "thing a", "tie a on a 5", "tie a on b 5", "tie b on a 5", "tie a on b 5", "tie b on a 5",
            "tie a on a 5",
        ])
        self.assertEqual(shown_web(web_of_ties(12))[3:], [f"tie a on b {place}" for place in range(12)])

    def test_great_numbers(self):
        nines = "9" * 60
        ten = "1" + "0" * 59
        self.assertEqual(shown_web(web_of_great_numbers()), [
            "thing a", f"set a l -{ten}", f"set a m {ten}", "set a n 0", f"set a o -{nines}", f"set a p {nines}",
            f"tie a p a {nines}", f"tie a o a -{nines}", "tie a n a 0", f"tie a m a {ten}", f"tie a l a -{ten}",
        ])

    def test_shows_the_web_as_it_stands(self):
        web = small_web()
        shown_web(web)
        web.set_value("ash", "k", 0)
        web.cut_tie(2)
        self.assertEqual(shown_web(web), [
            "thing sun", "set sun age -4", "set sun heat 9", "thing ash", "set ash k 0", "thing elm", "set elm age 7",
            "tie sun warms ash 3", "tie sun warms elm 3",
        ])

    def test_showing_changes_nothing(self):
        for web in webs():
            ahead = (shown(web), next_number(web))
            shown_web(web)
            self.assertEqual((shown(web), next_number(web)), ahead)

    def test_the_list_told_is_the_askers_own(self):
        for web in webs():
            ahead = shown_web(web)
            told = shown_web(web)
            self.assertIs(told.__class__, list)
            self.assertIsNot(told, ahead)
            told.append("thing more")
            told.insert(0, "thing other")
            self.assertEqual(shown_web(web), ahead)
            told.clear()
            self.assertEqual(shown_web(web), ahead)

    def test_the_list_told_stays(self):
        web = small_web()
        told = shown_web(web)
        web.set_value("sun", "heat", 1)
        web.cut_tie(0)
        self.assertEqual(told, SMALL_ROWS)


class ReadBack(unittest.TestCase):
    """[2.3]"""

    def test_the_same_web(self):
        for web in webs():
            told = read_web(shown_web(web))
            self.assertIs(told.__class__, Web)
            self.assertEqual(shown_numbered_anew(told), shown_numbered_anew(web))

    def test_numbered_from_nought_on(self):
        for web in webs():
            told = read_web(shown_web(web))
            count = len(web.ties())
            self.assertEqual(told.ties(), list(range(count)))
            self.assertEqual(next_number(told), count)

    def test_shown_by_the_same_rows(self):
        for web in webs():
            rows = shown_web(web)
            self.assertEqual(shown_web(read_web(rows)), rows)

    def test_rows_with_all_deeds(self):
        rows = [
            "thing a", "thing b", "thing c", "set a k 1", "set a j 2", "set a k 3", "set b k 4", "take b k",
            "tie a on b 1", "tie a on c 2", "tie c up c 3", "cut 0", "drop b", "thing b", "tie b on b 4", "cut 2",
        ]
        told = read_web(rows)
        self.assertEqual(told.ties(), [1, 3])
        self.assertEqual(next_number(told), 4)
        self.assertEqual(shown_web(told), [
            "thing a", "set a j 2", "set a k 3", "thing c", "thing b", "tie a on c 2", "tie b on b 4",
        ])
        self.assertEqual(shown(told), shown(done_rows(Web(), rows)))

    def test_rows_in_another_order(self):
        told = read_web(["thing a", "tie a on a 1", "thing b", "set b k 1", "tie b on a 2", "set a k 1"])
        self.assertEqual(shown_web(told), [
            "thing a", "set a k 1", "thing b", "set b k 1", "tie a on a 1", "tie b on a 2",
        ])

    def test_no_rows(self):
        told = read_web([])
        self.assertEqual(told.things(), [])
        self.assertEqual(next_number(told), 0)

    def test_each_time_a_new_web(self):
        for rows in ([], list(SMALL_ROWS)):
            one = read_web(rows)
            other = read_web(rows)
            ahead = shown(other)
            self.assertIsNot(one, other)
            done_row(one, "thing oak")
            self.assertEqual(shown(other), ahead)
            self.assertEqual(shown(read_web(rows)), ahead)

    def test_the_rows_handed_in(self):
        given = list(SMALL_ROWS)
        told = read_web(given)
        self.assertEqual(given, SMALL_ROWS)
        given.clear()
        self.assertEqual(shown_web(told), SMALL_ROWS)


class Refused(unittest.TestCase):
    """[2.3]: read_web refuses as done_rows does."""

    CASES = (
        (NoRow, [""]), (NoRow, ["thing a", ""]), (NoRow, ["thing a", "set a k 01"]), (NoRow, ["thing  a"]),
        (NoRow, ["thing a", "tie a on a"]), (NoName, ["thing A"]), (NoName, ["thing a", "set a K 1"]),
        (NoThing, ["set a k 1", "thing a"]), (NoThing, ["thing a", "tie a on b 1", "thing b"]),
        (NoKey, ["thing a", "take a k"]), (NoTie, ["cut 0"]), (Twice, ["thing a", "thing b", "thing a"]),
        (StillTied, ["thing a", "tie a on a 1", "drop a"]),
        (Full, [f"thing {name_at(place)}" for place in range(101)]),
        (Full, ["thing a"] + ["tie a on a 0"] * 401),
    )

    def test_refused(self):
        for error, rows in self.CASES:
            with self.subTest(rows[-2:]):
                given = list(rows)
                refused(self, error, read_web, given)
                refused(self, error, done_rows, Web(), given)
                self.assertEqual(given, rows)

    def test_at_each_place(self):
        for place in (0, 4, len(SMALL_ROWS)):
            refused(self, NoRow, read_web, SMALL_ROWS[:place] + ["thing"] + SMALL_ROWS[place:])
            refused(self, NoName, read_web, SMALL_ROWS[:place] + ["thing Oak"] + SMALL_ROWS[place:])

    def test_the_first_refusal(self):
        refused(self, NoName, read_web, ["thing A", "thing"])
        refused(self, NoRow, read_web, ["thing", "thing A"])
        refused(self, NoTie, read_web, ["thing a", "cut 0", "thing a"])
        refused(self, Twice, read_web, ["thing a", "thing a", "cut 0"])


if __name__ == "__main__":
    unittest.main()
