import unittest

from tieseek.errors import Full, NoThing
from tieseek.web import Web

from helper import refused, shown, small_web, web_of_things, web_of_ties


def set_new(web):
    web.set_value("ash", "age", 1)


def set_again(web):
    web.set_value("sun", "heat", 1)


def take(web):
    web.take_value("sun", "heat")


def add_thing(web):
    web.add_thing("oak")


def drop_thing(web):
    web.cut_tie(0)
    web.drop_thing("ash")


def add_tie(web):
    web.add_tie("ash", "near", "sun", 5)


def cut_tie(web):
    web.cut_tie(2)


DEEDS = (set_new, set_again, take, add_thing, drop_thing, add_tie, cut_tie)


class Twins(unittest.TestCase):
    """[1.7]"""

    def test_alike_in_all(self):
        for web in (Web(), small_web(), web_of_things(100), web_of_ties(400)):
            with self.subTest(things=len(web.things())):
                twin = web.twin()
                self.assertIs(twin.__class__, Web)
                self.assertIsNot(twin, web)
                self.assertEqual(shown(twin), shown(web))

    def test_order_of_things(self):
        web = small_web()
        web.cut_tie(0)
        web.cut_tie(3)
        web.drop_thing("sun")
        web.add_thing("sun")
        self.assertEqual(web.twin().things(), ["ash", "elm", "sun"])

    def test_next_number(self):
        web = small_web()
        self.assertEqual(web.twin().add_tie("sun", "on", "ash"), 4)
        self.assertEqual(web.add_tie("sun", "on", "ash"), 4)

    def test_next_number_where_the_last_ties_are_cut(self):
        web = web_of_ties(5)
        for number in range(5):
            web.cut_tie(number)
        self.assertEqual(web.twin().add_tie("a", "on", "b"), 5)
        self.assertEqual(web.twin().twin().add_tie("a", "on", "b"), 5)

    def test_bounds_hold_for_a_twin(self):
        refused(self, Full, web_of_things(100).twin().add_thing, "more")
        refused(self, Full, web_of_ties(400).twin().add_tie, "a", "on", "b")

    def test_asking_for_a_twin_changes_nothing(self):
        web = small_web()
        ahead = shown(web)
        web.twin()
        self.assertEqual(shown(web), ahead)

    def test_done_to_the_twin(self):
        for deed in DEEDS:
            with self.subTest(deed.__name__):
                web = small_web()
                twin = web.twin()
                deed(twin)
                self.assertEqual(shown(web), shown(small_web()))
                self.assertNotEqual(shown(twin), shown(web))
                self.assertEqual(web.add_tie("sun", "on", "ash"), 4)

    def test_done_to_the_first(self):
        for deed in DEEDS:
            with self.subTest(deed.__name__):
                web = small_web()
                twin = web.twin()
                deed(web)
                self.assertEqual(shown(twin), shown(small_web()))
                self.assertNotEqual(shown(twin), shown(web))
                self.assertEqual(twin.add_tie("sun", "on", "ash"), 4)

    def test_twins_of_one_web(self):
        for deed in DEEDS:
            with self.subTest(deed.__name__):
                web = small_web()
                one = web.twin()
                other = web.twin()
                deed(one)
                self.assertEqual(shown(other), shown(web))

    def test_twin_of_an_empty_web(self):
        web = Web()
        twin = web.twin()
        twin.add_thing("a")
        self.assertEqual(web.things(), [])
        refused(self, NoThing, web.out_of, "a")
        self.assertEqual(twin.add_tie("a", "on", "a"), 0)


if __name__ == "__main__":
    unittest.main()
