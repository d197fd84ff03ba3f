import unittest

from tieseek.errors import Full, NoName, NoNumber, NoThing, NoTie, StillTied

from helper import (
    BAD_NAMES, GREATEST, TOO_LONG, refused, refused_unchanged, small_web, web_of_ties, web_with,
)

# Whole numbers that are no tie's number where the ties are 0, 2 and 3.
OTHER_NUMBERS = (-1, -2, -400, 1, 4, 5, 400, 10 ** 18, 10 ** 60, -(10 ** 60), 10 ** 5000, -(10 ** 5000))


class Numbers(unittest.TestCase):
    """[1.5]"""

    def test_from_nought_on(self):
        web = web_with(["a", "b"])
        self.assertEqual([web.add_tie("a", "on", "b", 1) for place in range(5)], [0, 1, 2, 3, 4])
        self.assertEqual(web.ties(), [0, 1, 2, 3, 4])

    def test_none_given_twice(self):
        web = web_of_ties(3)
        web.cut_tie(2)
        self.assertEqual(web.add_tie("a", "on", "b"), 3)
        web.cut_tie(0)
        self.assertEqual(web.add_tie("a", "on", "b"), 4)
        self.assertEqual(web.ties(), [1, 3, 4])

    def test_none_given_twice_though_all_are_cut(self):
        web = web_of_ties(3)
        for number in (1, 2, 0):
            web.cut_tie(number)
        self.assertEqual(web.ties(), [])
        self.assertEqual(web.add_tie("a", "on", "b"), 3)

    def test_none_given_twice_though_its_things_go(self):
        web = web_of_ties(1)
        web.cut_tie(0)
        for name in ("a", "b", "c"):
            web.drop_thing(name)
        web.add_thing("a")
        self.assertEqual(web.add_tie("a", "on", "a"), 1)

    def test_none_taken_by_what_is_refused(self):
        web = web_of_ties(2)
        refused(self, NoThing, web.add_tie, "x", "on", "b")
        refused(self, NoThing, web.add_tie, "a", "on", "x")
        refused(self, NoName, web.add_tie, "a", "On", "b")
        refused(self, NoNumber, web.add_tie, "a", "on", "b", 10 ** 60)
        refused(self, NoTie, web.cut_tie, 2)
        refused(self, StillTied, web.drop_thing, "a")
        self.assertEqual(web.add_tie("a", "on", "b"), 2)

    def test_none_taken_where_full(self):
        web = web_of_ties(400)
        for place in range(3):
            refused(self, Full, web.add_tie, "a", "on", "b")
        web.cut_tie(7)
        self.assertEqual(web.add_tie("a", "on", "b"), 400)

    def test_399_400_and_401(self):
        web = web_of_ties(399)
        self.assertEqual(web.ties(), list(range(399)))
        self.assertEqual(web.add_tie("b", "on", "a"), 399)
        self.assertEqual(web.ties(), list(range(400)))
        refused_unchanged(self, web, Full, web.add_tie, "a", "on", "b")

    def test_full_goes_by_those_there_at_once(self):
        web = web_of_ties(400)
        web.cut_tie(0)
        web.cut_tie(399)
        self.assertEqual(web.add_tie("a", "on", "b"), 400)
        self.assertEqual(web.add_tie("a", "on", "b"), 401)
        refused_unchanged(self, web, Full, web.add_tie, "a", "on", "b")
        self.assertEqual(web.ties(), list(range(1, 399)) + [400, 401])

    def test_more_than_400_one_behind_the_other(self):
        web = web_with(["a"])
        for place in range(900):
            self.assertEqual(web.add_tie("a", "on", "a"), place)
            web.cut_tie(place)
        self.assertEqual(web.ties(), [])


class OneTie(unittest.TestCase):
    """[1.5], [0.2]"""

    def test_told(self):
        web = web_with(["a", "b"])
        number = web.add_tie("a", "on", "b", -12)
        self.assertEqual(web.tie(number), ("a", "on", "b", -12))
        self.assertIs(web.tie(number).__class__, tuple)

    def test_weight_left_out(self):
        web = web_with(["a", "b"])
        self.assertEqual(web.tie(web.add_tie("a", "on", "b")), ("a", "on", "b", 0))

    def test_two_alike(self):
        web = web_with(["a", "b"])
        one = web.add_tie("a", "on", "b", 4)
        other = web.add_tie("a", "on", "b", 4)
        self.assertNotEqual(one, other)
        self.assertEqual(web.tie(one), web.tie(other))
        web.cut_tie(one)
        self.assertEqual(web.ties(), [other])
        self.assertEqual(web.tie(other), ("a", "on", "b", 4))

    def test_to_itself(self):
        web = web_with(["a"])
        self.assertEqual(web.tie(web.add_tie("a", "a", "a", 1)), ("a", "a", "a", 1))

    def test_cut_gives_back_none(self):
        web = web_of_ties(1)
        self.assertIsNone(web.cut_tie(0))

    def test_cut(self):
        web = web_of_ties(3)
        web.cut_tie(1)
        self.assertEqual(web.ties(), [0, 2])
        self.assertEqual(web.tie(0), ("a", "on", "b", 0))
        self.assertEqual(web.tie(2), ("a", "on", "b", 2))

    def test_cut_twice(self):
        web = web_of_ties(3)
        web.cut_tie(1)
        refused_unchanged(self, web, NoTie, web.cut_tie, 1)
        refused(self, NoTie, web.tie, 1)

    def test_any_other_whole_number(self):
        web = small_web()
        self.assertEqual(web.ties(), [0, 2, 3])
        for place, number in enumerate(OTHER_NUMBERS):
            with self.subTest(place):
                refused_unchanged(self, web, NoTie, web.cut_tie, number)
                refused_unchanged(self, web, NoTie, web.tie, number)

    def test_no_thing(self):
        web = web_with(["a", "b"])
        for text in ("x", "on") + BAD_NAMES:
            with self.subTest(text):
                refused_unchanged(self, web, NoThing, web.add_tie, text, "on", "b")
                refused_unchanged(self, web, NoThing, web.add_tie, "a", "on", text)
                refused_unchanged(self, web, NoThing, web.add_tie, text, "on", text)

    def test_dropped_thing(self):
        web = web_with(["a", "b"])
        web.drop_thing("b")
        refused_unchanged(self, web, NoThing, web.add_tie, "a", "on", "b")
        refused_unchanged(self, web, NoThing, web.add_tie, "b", "on", "a")

    def test_bad_names(self):
        web = web_with(["a", "b"])
        for text in BAD_NAMES:
            with self.subTest(text):
                refused_unchanged(self, web, NoName, web.add_tie, "a", text, "b", 1)

    def test_names_at_the_bounds(self):
        web = web_with(["a", "b"])
        self.assertEqual(web.tie(web.add_tie("a", "abcdefghijkl", "b"))[1], "abcdefghijkl")
        refused_unchanged(self, web, NoName, web.add_tie, "a", "abcdefghijklm", "b")

    def test_weights(self):
        web = web_with(["a", "b"])
        for weight in (0, 1, -1, 10 ** 59, -(10 ** 59), GREATEST, -GREATEST):
            with self.subTest(weight):
                self.assertEqual(web.tie(web.add_tie("a", "on", "b", weight))[3], weight)
        for place, weight in enumerate(TOO_LONG):
            with self.subTest(place):
                refused_unchanged(self, web, NoNumber, web.add_tie, "a", "on", "b", weight)


class Lists(unittest.TestCase):
    """[1.6]"""

    def test_put_in_and_cut(self):
        web = web_with(["a", "b", "c"])
        web.add_tie("a", "on", "b")
        web.add_tie("b", "up", "c")
        web.add_tie("c", "on", "a")
        web.add_tie("a", "up", "c")
        web.add_tie("b", "on", "a")
        web.add_tie("a", "on", "b")
        self.assertEqual([web.out_of(name) for name in ("a", "b", "c")], [[0, 3, 5], [1, 4], [2]])
        self.assertEqual([web.into(name) for name in ("a", "b", "c")], [[2, 4], [0, 5], [1, 3]])
        self.assertEqual([web.named(name) for name in ("on", "up")], [[0, 2, 4, 5], [1, 3]])
        web.cut_tie(3)
        web.cut_tie(0)
        self.assertEqual([web.out_of(name) for name in ("a", "b", "c")], [[5], [1, 4], [2]])
        self.assertEqual([web.into(name) for name in ("a", "b", "c")], [[2, 4], [5], [1]])
        self.assertEqual([web.named(name) for name in ("on", "up")], [[2, 4, 5], [1]])
        web.add_tie("a", "up", "c")
        self.assertEqual(web.out_of("a"), [5, 6])
        self.assertEqual(web.into("c"), [1, 6])
        self.assertEqual(web.named("up"), [1, 6])

    def test_rising_numbers_of_more_than_one_figure(self):
        web = web_of_ties(120)
        self.assertEqual(web.out_of("a"), list(range(120)))
        self.assertEqual(web.into("b"), list(range(120)))
        self.assertEqual(web.named("on"), list(range(120)))

    def test_empty(self):
        web = web_of_ties(2)
        self.assertEqual(web.out_of("c"), [])
        self.assertEqual(web.into("c"), [])
        self.assertEqual(web.into("a"), [])
        self.assertEqual(web.out_of("b"), [])

    def test_to_itself_stands_in_both(self):
        web = web_with(["a", "b"])
        web.add_tie("a", "on", "b")
        web.add_tie("a", "on", "a")
        self.assertEqual(web.out_of("a"), [0, 1])
        self.assertEqual(web.into("a"), [1])
        web.cut_tie(1)
        self.assertEqual(web.out_of("a"), [0])
        self.assertEqual(web.into("a"), [])

    def test_of_no_thing(self):
        web = web_of_ties(2)
        for text in ("x", "on") + BAD_NAMES:
            with self.subTest(text):
                refused_unchanged(self, web, NoThing, web.out_of, text)
                refused_unchanged(self, web, NoThing, web.into, text)

    def test_named_of_any_other_text(self):
        web = web_of_ties(2)
        for text in ("a", "b", "o", "onn") + BAD_NAMES:
            with self.subTest(text):
                self.assertEqual(web.named(text), [])

    def test_a_tie_may_be_called_like_a_thing(self):
        web = web_with(["a", "b"])
        web.add_tie("a", "b", "a")
        self.assertEqual(web.named("b"), [0])
        self.assertEqual(web.out_of("b"), [])
        self.assertEqual(web.into("b"), [])
        web.drop_thing("b")
        self.assertEqual(web.named("b"), [0])


class StillTiedThings(unittest.TestCase):
    """[1.6], and drop_thing in the interface"""

    def check_kept_until_cut(self, start, end, name):
        web = web_with(["a", "b"])
        web.set_value(name, "k", 5)
        number = web.add_tie(start, "on", end)
        refused_unchanged(self, web, StillTied, web.drop_thing, name)
        self.assertEqual(web.value(name, "k"), 5)
        web.cut_tie(number)
        web.drop_thing(name)
        self.assertIs(web.has_thing(name), False)

    def test_start(self):
        self.check_kept_until_cut("a", "b", "a")

    def test_end(self):
        self.check_kept_until_cut("a", "b", "b")

    def test_both(self):
        self.check_kept_until_cut("a", "a", "a")

    def test_two_ties(self):
        web = web_with(["a", "b"])
        web.add_tie("a", "on", "b")
        web.add_tie("b", "on", "a")
        web.cut_tie(0)
        refused_unchanged(self, web, StillTied, web.drop_thing, "a")
        refused_unchanged(self, web, StillTied, web.drop_thing, "b")
        web.cut_tie(1)
        web.drop_thing("a")
        self.assertEqual(web.things(), ["b"])

    def test_untied_thing_goes_beside_tied_ones(self):
        web = web_of_ties(2)
        web.drop_thing("c")
        self.assertEqual(web.things(), ["a", "b"])
        self.assertEqual(web.ties(), [0, 1])


if __name__ == "__main__":
    unittest.main()
