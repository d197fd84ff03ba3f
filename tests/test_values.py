import unittest

from tieseek.errors import NoKey, NoName, NoNumber, NoThing

from helper import BAD_NAMES, GREATEST, TOO_LONG, refused, refused_unchanged, web_with


class Values(unittest.TestCase):
    """[1.4], [0.2]"""

    def test_changing_gives_back_none(self):
        web = web_with(["a"])
        self.assertIsNone(web.set_value("a", "k", 1))
        self.assertIsNone(web.take_value("a", "k"))

    def test_set_and_asked(self):
        web = web_with(["a", "b"])
        web.set_value("a", "k", 5)
        web.set_value("b", "k", -6)
        self.assertEqual(web.value("a", "k"), 5)
        self.assertEqual(web.value("b", "k"), -6)
        self.assertIsNone(web.value("a", "m"))

    def test_nought_is_a_value(self):
        web = web_with(["a"])
        web.set_value("a", "k", 0)
        self.assertEqual(web.value("a", "k"), 0)
        self.assertEqual(web.values_of("a"), [("k", 0)])

    def test_set_again(self):
        web = web_with(["a"])
        web.set_value("a", "k", 5)
        web.set_value("a", "m", 7)
        web.set_value("a", "k", 6)
        self.assertEqual(web.value("a", "k"), 6)
        self.assertEqual(web.values_of("a"), [("k", 6), ("m", 7)])

    def test_taken(self):
        web = web_with(["a", "b"])
        web.set_value("a", "k", 5)
        web.set_value("a", "m", 0)
        web.set_value("b", "k", 6)
        web.take_value("a", "k")
        self.assertIsNone(web.value("a", "k"))
        self.assertEqual(web.values_of("a"), [("m", 0)])
        web.take_value("a", "m")
        self.assertEqual(web.values_of("a"), [])
        self.assertEqual(web.values_of("b"), [("k", 6)])

    def test_taken_twice(self):
        web = web_with(["a"])
        web.set_value("a", "k", 5)
        web.take_value("a", "k")
        refused_unchanged(self, web, NoKey, web.take_value, "a", "k")

    def test_taken_and_set_again(self):
        web = web_with(["a"])
        web.set_value("a", "k", 5)
        web.take_value("a", "k")
        web.set_value("a", "k", 6)
        self.assertEqual(web.values_of("a"), [("k", 6)])

    def test_pairs_by_rising_key(self):
        web = web_with(["a"])
        for place, key in enumerate(["b", "ab", "z", "a", "abc", "aa", "ba", "abcdefghijkl"]):
            web.set_value("a", key, 100 - place)
        self.assertEqual(web.values_of("a"), [
            ("a", 97), ("aa", 95), ("ab", 99), ("abc", 96), ("abcdefghijkl", 93),
            ("b", 100), ("ba", 94), ("z", 98),
        ])

    def test_pairs_are_tuples_in_a_list(self):
        web = web_with(["a"])
        self.assertEqual(web.values_of("a"), [])
        web.set_value("a", "k", 5)
        self.assertIs(web.values_of("a").__class__, list)
        self.assertIs(web.values_of("a")[0].__class__, tuple)

    def test_asked_by_any_text(self):
        web = web_with(["a"])
        web.set_value("a", "k", 5)
        for text in BAD_NAMES:
            with self.subTest(text):
                self.assertIsNone(web.value("a", text))

    def test_taken_by_any_text(self):
        web = web_with(["a", "b"])
        web.set_value("a", "k", 5)
        for text in ("m", "kk") + BAD_NAMES:
            with self.subTest(text):
                refused_unchanged(self, web, NoKey, web.take_value, "a", text)
        refused_unchanged(self, web, NoKey, web.take_value, "b", "k")

    def test_bad_keys(self):
        web = web_with(["a"])
        for text in BAD_NAMES:
            with self.subTest(text):
                refused_unchanged(self, web, NoName, web.set_value, "a", text, 1)

    def test_keys_at_the_bounds(self):
        web = web_with(["a"])
        web.set_value("a", "abcdefghijkl", 1)
        self.assertEqual(web.value("a", "abcdefghijkl"), 1)
        refused_unchanged(self, web, NoName, web.set_value, "a", "abcdefghijklm", 1)

    def test_sixty_figures(self):
        web = web_with(["a"])
        for number in (GREATEST, -GREATEST, 10 ** 59, -(10 ** 59), 10 ** 59 - 1, 1 - 10 ** 59):
            with self.subTest(number):
                web.set_value("a", "k", number)
                self.assertEqual(web.value("a", "k"), number)
                self.assertEqual(web.values_of("a"), [("k", number)])

    def test_more_than_sixty_figures(self):
        web = web_with(["a"])
        web.set_value("a", "k", 5)
        for place, number in enumerate(TOO_LONG):
            with self.subTest(place):
                refused_unchanged(self, web, NoNumber, web.set_value, "a", "k", number)
                refused_unchanged(self, web, NoNumber, web.set_value, "a", "m", number)

    def test_of_no_thing(self):
        web = web_with(["a"])
        web.set_value("a", "k", 5)
        for text in ("b", "k") + BAD_NAMES:
            with self.subTest(text):
                refused_unchanged(self, web, NoThing, web.set_value, text, "k", 1)
                refused_unchanged(self, web, NoThing, web.take_value, text, "k")
                refused(self, NoThing, web.value, text, "k")
                refused(self, NoThing, web.values_of, text)

    def test_a_key_may_be_called_like_a_thing(self):
        web = web_with(["a", "b"])
        web.set_value("a", "b", 1)
        self.assertEqual(web.value("a", "b"), 1)
        self.assertEqual(web.values_of("b"), [])


if __name__ == "__main__":
    unittest.main()
