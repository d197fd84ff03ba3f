import unittest

from tieseek.errors import Full, NoName, NoNumber, NoThing, Twice

from helper import name_at, refused_unchanged, small_web, web_of_things, web_of_ties

LONG = 10 ** 60


class FirstToldGoesFirst(unittest.TestCase):
    """[0.4]: where two refusals are due, the one that the interface tells first goes first."""

    def test_add_thing(self):
        web = web_of_things(100)
        refused_unchanged(self, web, NoName, web.add_thing, "No")
        refused_unchanged(self, web, NoName, web.add_thing, "")
        refused_unchanged(self, web, Twice, web.add_thing, name_at(0))
        refused_unchanged(self, web, Twice, web.add_thing, name_at(99))
        refused_unchanged(self, web, Full, web.add_thing, "more")

    def test_drop_thing(self):
        web = web_of_ties(400)
        refused_unchanged(self, web, NoThing, web.drop_thing, "on")
        refused_unchanged(self, web, NoThing, web.drop_thing, "")

    def test_set_value(self):
        web = small_web()
        refused_unchanged(self, web, NoThing, web.set_value, "oak", "", 1)
        refused_unchanged(self, web, NoThing, web.set_value, "oak", "age", LONG)
        refused_unchanged(self, web, NoThing, web.set_value, "", "", -LONG)
        refused_unchanged(self, web, NoName, web.set_value, "sun", "", LONG)
        refused_unchanged(self, web, NoName, web.set_value, "sun", "Age", -LONG)
        refused_unchanged(self, web, NoNumber, web.set_value, "sun", "age", LONG)

    def test_take_value(self):
        web = small_web()
        refused_unchanged(self, web, NoThing, web.take_value, "oak", "mass")
        refused_unchanged(self, web, NoThing, web.take_value, "", "")

    def check_no_thing_first(self, web, name, weight):
        refused_unchanged(self, web, NoThing, web.add_tie, "x", name, "b", weight)
        refused_unchanged(self, web, NoThing, web.add_tie, "a", name, "x", weight)
        refused_unchanged(self, web, NoThing, web.add_tie, "", name, "?", weight)

    def test_add_tie_no_thing_first(self):
        for web in (web_of_ties(1), web_of_ties(400)):
            for name in ("on", "On", ""):
                for weight in (0, LONG, -LONG):
                    with self.subTest(ties=len(web.ties()), name=name, weight=weight):
                        self.check_no_thing_first(web, name, weight)

    def test_add_tie_no_name_second(self):
        for web in (web_of_ties(1), web_of_ties(400)):
            for name in ("On", "", "abcdefghijklm"):
                for weight in (0, LONG, -LONG):
                    with self.subTest(ties=len(web.ties()), name=name, weight=weight):
                        refused_unchanged(self, web, NoName, web.add_tie, "a", name, "b", weight)

    def test_add_tie_no_number_third_and_full_last(self):
        web = web_of_ties(400)
        refused_unchanged(self, web, NoNumber, web.add_tie, "a", "on", "b", LONG)
        refused_unchanged(self, web, NoNumber, web.add_tie, "a", "on", "b", -LONG)
        refused_unchanged(self, web, Full, web.add_tie, "a", "on", "b", LONG - 1)


if __name__ == "__main__":
    unittest.main()
