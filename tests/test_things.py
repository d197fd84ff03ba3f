import unittest

from tieseek.errors import Full, NoName, NoThing, Twice
from tieseek.web import Web

from helper import BAD_NAMES, name_at, refused, refused_unchanged, web_of_things, web_with


class Things(unittest.TestCase):
    """[1.3], [1.1]"""

    def test_new_web(self):
        web = Web()
        self.assertEqual(web.things(), [])
        self.assertEqual(web.ties(), [])

    def test_order_in_which_they_came(self):
        self.assertEqual(web_with(["m", "z", "a", "ab", "aa"]).things(), ["m", "z", "a", "ab", "aa"])

    def test_changing_gives_back_none(self):
        web = Web()
        self.assertIsNone(web.add_thing("a"))
        self.assertIsNone(web.drop_thing("a"))

    def test_has_thing(self):
        web = web_with(["a", "abcdefghijkl"])
        self.assertIs(web.has_thing("a"), True)
        self.assertIs(web.has_thing("abcdefghijkl"), True)
        self.assertIs(web.has_thing("b"), False)
        web.drop_thing("a")
        self.assertIs(web.has_thing("a"), False)

    def test_has_thing_of_any_text(self):
        web = web_with(["a"])
        for text in BAD_NAMES:
            with self.subTest(text):
                self.assertIs(web.has_thing(text), False)

    def test_bad_names_refused(self):
        web = web_with(["a"])
        for text in BAD_NAMES:
            with self.subTest(text):
                refused_unchanged(self, web, NoName, web.add_thing, text)

    def test_names_at_the_bounds(self):
        web = web_with(["a", "abcdefghijkl"])
        self.assertEqual(web.things(), ["a", "abcdefghijkl"])
        refused_unchanged(self, web, NoName, web.add_thing, "abcdefghijklm")

    def test_twice(self):
        web = web_with(["a", "b"])
        web.set_value("a", "k", 1)
        refused_unchanged(self, web, Twice, web.add_thing, "a")
        refused_unchanged(self, web, Twice, web.add_thing, "b")
        self.assertEqual(web.value("a", "k"), 1)

    def test_ninety_nine_and_a_hundred(self):
        web = web_of_things(99)
        self.assertEqual(len(web.things()), 99)
        web.add_thing("last")
        self.assertEqual(web.things(), [name_at(place) for place in range(99)] + ["last"])

    def test_hundred_and_first(self):
        web = web_of_things(100)
        refused_unchanged(self, web, Full, web.add_thing, "more")
        self.assertIs(web.has_thing("more"), False)

    def test_room_again_behind_a_drop(self):
        web = web_of_things(100)
        web.drop_thing(name_at(40))
        web.add_thing("more")
        self.assertEqual(len(web.things()), 100)
        self.assertEqual(web.things()[-1], "more")
        refused_unchanged(self, web, Full, web.add_thing, name_at(40))

    def test_more_than_a_hundred_one_behind_the_other(self):
        web = Web()
        for place in range(300):
            web.add_thing(name_at(place))
            web.drop_thing(name_at(place))
        self.assertEqual(web.things(), [])

    def test_dropped(self):
        web = web_with(["a", "b", "c"])
        web.drop_thing("b")
        self.assertEqual(web.things(), ["a", "c"])

    def test_dropped_comes_again_last_without_values(self):
        web = web_with(["a", "b", "c"])
        web.set_value("a", "k", 1)
        web.set_value("a", "m", 2)
        web.set_value("b", "k", 3)
        web.drop_thing("a")
        web.add_thing("a")
        self.assertEqual(web.things(), ["b", "c", "a"])
        self.assertEqual(web.values_of("a"), [])
        self.assertIsNone(web.value("a", "k"))
        self.assertEqual(web.values_of("b"), [("k", 3)])

    def test_drop_of_no_thing(self):
        web = web_with(["a", "b"])
        web.drop_thing("b")
        for text in ("b", "c") + BAD_NAMES:
            with self.subTest(text):
                refused_unchanged(self, web, NoThing, web.drop_thing, text)

    def test_no_thing_at_all_asked_of_an_empty_web(self):
        web = Web()
        for call in (web.drop_thing, web.values_of, web.out_of, web.into):
            refused(self, NoThing, call, "a")


if __name__ == "__main__":
    unittest.main()
