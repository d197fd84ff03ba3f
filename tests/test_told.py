import unittest

from tieseek.errors import NoThing, NoTie
from tieseek.web import Web

from helper import refused, shown, small_web


def told_lists(web):
    """All lists that a web tells."""
    return [
        web.things(), web.ties(), web.values_of("sun"), web.values_of("ash"), web.out_of("sun"),
        web.out_of("ash"), web.into("elm"), web.into("sun"), web.named("near"), web.named("none"),
    ]


def change_all(web):
    web.set_value("sun", "heat", 1)
    web.set_value("sun", "bulk", 2)
    web.take_value("sun", "age")
    web.set_value("ash", "age", 3)
    web.add_tie("ash", "none", "sun")
    web.add_tie("ash", "near", "elm")
    for number in (0, 2, 3):
        web.cut_tie(number)
    web.add_thing("oak")


class WhatIsTold(unittest.TestCase):
    """[0.3]"""

    def test_stays_whatever_is_done_later(self):
        web = small_web()
        told = told_lists(web)
        ties = [web.tie(number) for number in web.ties()]
        change_all(web)
        alike = small_web()
        self.assertEqual(told, told_lists(alike))
        self.assertEqual(ties, [alike.tie(number) for number in alike.ties()])
        self.assertNotEqual(told, told_lists(web))

    def test_is_the_askers_own(self):
        web = small_web()
        for told in told_lists(web):
            told.append("more")
            told.insert(0, ("other", 0))
        self.assertEqual(shown(web), shown(small_web()))
        for told in told_lists(web):
            told.clear()
        self.assertEqual(shown(web), shown(small_web()))
        self.assertEqual(told_lists(web), told_lists(small_web()))

    def test_is_a_list_each_time_anew(self):
        web = small_web()
        told = told_lists(web) + told_lists(web)
        self.assertEqual(len({id(one) for one in told}), len(told))
        for one in told:
            self.assertIs(one.__class__, list)

    def test_asking_changes_nothing(self):
        web = small_web()
        told_lists(web)
        web.value("sun", "none")
        web.has_thing("none")
        self.assertEqual(shown(web), shown(small_web()))
        self.assertEqual(web.add_tie("sun", "on", "ash"), 4)

    def test_every_question_as_things_stand(self):
        web = small_web()
        told_lists(web)
        change_all(web)
        self.assertEqual(told_lists(web), [
            ["sun", "ash", "elm", "oak"], [4, 5], [("bulk", 2), ("heat", 1)], [("age", 3)], [],
            [4, 5], [5], [4], [5], [4],
        ])


class TwoWebs(unittest.TestCase):
    """[0.3]: webs made one beside the other share nothing."""

    def test_share_nothing(self):
        one = Web()
        other = Web()
        one.add_thing("a")
        one.set_value("a", "k", 1)
        one.add_tie("a", "on", "a")
        self.assertEqual(other.things(), [])
        self.assertEqual(other.ties(), [])
        self.assertEqual(other.named("on"), [])
        refused(self, NoThing, other.value, "a", "k")
        refused(self, NoTie, other.tie, 0)
        other.add_thing("a")
        self.assertEqual(other.values_of("a"), [])
        self.assertEqual(other.add_tie("a", "up", "a", 2), 0)
        self.assertEqual(one.tie(0), ("a", "on", "a", 0))
        self.assertEqual(Web().things(), [])

    def test_things_share_no_values(self):
        web = Web()
        web.add_thing("a")
        web.add_thing("b")
        web.set_value("a", "k", 1)
        self.assertIsNone(web.value("b", "k"))


if __name__ == "__main__":
    unittest.main()
