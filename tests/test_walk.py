import copy
import unittest

from tieseek.errors import NoThing, NoWay
from tieseek.walk import steps_of, turned_way, walked

from helper import (
    BAD_NAMES, GREATEST, all_ways, no_list_twice, refused, refused_unchanged, search_webs, shown, small_web, way_steps,
    web_tied,
)

# Numbers that no tie of small_web has: one that was cut, ones that were never given, below nought too.
NO_TIES = (1, 4, 5, 400, GREATEST, 10 ** 70, -1, -2, -4, -5, -GREATEST)


def ring():
    """a to b by 0, b to c by 1, c to a by 2, and b to itself by 3."""
    return web_tied("abc", [("a", "x", "b", 1), ("b", "y", "c", 2), ("c", "x", "a", 3), ("b", "z", "b", -4)])


class Walked(unittest.TestCase):
    """[5.1]"""

    def check(self, web, start, way, told):
        with self.subTest(start=start, way=way):
            self.assertEqual(walked(web, start, way), told)

    def test_the_empty_way(self):
        for web in [ring(), small_web()] + search_webs():
            for start in web.things():
                self.check(web, start, [], start)

    def test_one_tie(self):
        for start, number, back, told in (
            ("a", 0, False, "b"), ("b", 0, True, "a"), ("b", 1, False, "c"), ("c", 1, True, "b"),
            ("c", 2, False, "a"), ("a", 2, True, "c"), ("b", 3, False, "b"), ("b", 3, True, "b"),
        ):
            self.check(ring(), start, [(number, back)], told)

    def test_more_ties(self):
        for start, way, told in (
            ("a", [(0, False), (1, False), (2, False)], "a"),
            ("a", [(2, True), (1, True), (0, True)], "a"),
            ("a", [(0, False), (0, True)], "a"),
            ("a", [(0, False), (0, True), (0, False)], "b"),
            ("a", [(0, False), (3, False), (3, True), (3, True), (1, False)], "c"),
            ("c", [(1, True), (3, False), (0, True), (2, True)], "c"),
        ):
            self.check(ring(), start, way, told)

    def test_ties_alike_in_all_but_the_number(self):
        web = web_tied("ab", [("a", "x", "b", 1)] * 3)
        for number in range(3):
            self.check(web, "a", [(number, False)], "b")
            self.check(web, "a", [(number, False), (2 - number, True)], "a")

    def test_all_ways_of_some_length(self):
        for web in search_webs():
            for start in web.things():
                for way, told in all_ways(web, start, 4):
                    self.check(web, start, way, told)

    def test_1000_ties(self):
        for count in (1000, 1100):
            way = [(0, False), (0, True)] * (count // 2)
            self.check(ring(), "a", way, "a")
            self.check(ring(), "a", way[:-1], "b")
            self.check(ring(), "b", [(3, True)] * count, "b")
            refused(self, NoWay, walked, ring(), "a", way[:-1] + [(0, False)])

    def test_as_the_web_stands(self):
        web = ring()
        way = [(0, False), (1, False)]
        self.assertEqual(walked(web, "a", way), "c")
        web.cut_tie(1)
        refused(self, NoWay, walked, web, "a", way)
        number = web.add_tie("b", "y", "a")
        refused(self, NoWay, walked, web, "a", way)
        self.assertEqual(walked(web, "a", [(0, False), (number, False)]), "a")


class WalkedRefused(unittest.TestCase):
    """[5.1]: NoThing, then NoWay."""

    def check(self, error, start, way):
        with self.subTest(start=start, way=way):
            ahead = list(way)
            web = small_web()
            refused_unchanged(self, web, error, walked, web, start, way)
            self.assertEqual(way, ahead)

    def test_no_start(self):
        for start in BAD_NAMES + ("oak", "su", "sunn", "near", "warms", "age"):
            for way in ([], [(0, False)], [(2, True)], [(1, False)], [(-1, True)], [(0, False), (9, False)]):
                self.check(NoThing, start, way)

    def test_a_start_that_was_dropped(self):
        web = small_web()
        web.add_thing("oak")
        self.assertEqual(walked(web, "oak", []), "oak")
        web.drop_thing("oak")
        refused_unchanged(self, web, NoThing, walked, web, "oak", [])
        refused_unchanged(self, web, NoThing, walked, web, "oak", [(1, False)])

    def test_ties_that_are_not_there(self):
        for number in NO_TIES:
            for back in (False, True):
                for start in ("sun", "ash", "elm"):
                    self.check(NoWay, start, [(number, back)])
                self.check(NoWay, "sun", [(number, back), (0, False), (0, True)])
                self.check(NoWay, "sun", [(0, False), (number, back), (0, True)])
                self.check(NoWay, "sun", [(0, False), (0, True), (number, back)])

    def test_a_web_without_ties(self):
        web = web_tied("ab", [])
        for number in (-1, 0, 1):
            refused_unchanged(self, web, NoWay, walked, web, "a", [(number, False)])

    def test_ties_that_do_not_go_on(self):
        for start, way in (
            # At the first place: from another thing, and from the wrong one of the tie's two.
            ("ash", [(3, False)]), ("ash", [(0, False)]), ("sun", [(0, True)]), ("elm", [(3, False)]),
            ("sun", [(2, False)]), ("sun", [(2, True)]), ("ash", [(3, False), (2, False)]),
            ("elm", [(0, True), (0, False)]),
            # At a middle one.
            ("sun", [(0, False), (0, False), (0, True)]), ("sun", [(0, False), (2, False), (2, False)]),
            ("sun", [(3, False), (0, True), (0, False)]), ("elm", [(2, True), (0, True), (0, False)]),
            # At the last one.
            ("sun", [(0, False), (0, False)]), ("sun", [(0, False), (3, True)]),
            ("elm", [(3, True), (0, False), (0, False)]), ("elm", [(3, True), (3, False), (2, True), (0, True)]),
        ):
            self.check(NoWay, start, way)

    def test_all_pairs_but_those_that_go_on(self):
        for web in search_webs():
            for start in web.things():
                good = dict([(tuple(way), told) for way, told in all_ways(web, start, 2)])
                pairs = [(number, back) for number in range(-1, 5) for back in (False, True)]
                for way in [(one,) for one in pairs] + [(one, other) for one in pairs for other in pairs]:
                    with self.subTest(start=start, way=way):
                        if way in good:
                            self.assertEqual(walked(web, start, list(way)), good[way])
                        else:
                            refused(self, NoWay, walked, web, start, list(way))


class StepsOf(unittest.TestCase):
    """[0.6]"""

    def test_no_ties(self):
        self.assertEqual(steps_of(ring(), []), [])
        self.assertEqual(steps_of(web_tied("", []), []), [])

    def test_one_tie(self):
        for number, name, weight in ((0, "x", 1), (1, "y", 2), (2, "x", 3), (3, "z", -4)):
            for back in (False, True):
                self.assertEqual(steps_of(ring(), [(number, back)]), [(name, weight, back)])

    def test_ways_that_go_on(self):
        for web in search_webs():
            for start in web.things():
                for way, told in all_ways(web, start, 3):
                    self.assertEqual(steps_of(web, way), way_steps(web, way))

    def test_ways_that_do_not(self):
        for way, told in (
            ([(0, False), (0, False)], [("x", 1, False), ("x", 1, False)]),
            ([(0, True), (2, True), (0, False)], [("x", 1, True), ("x", 3, True), ("x", 1, False)]),
            ([(3, False), (2, False), (1, True)], [("z", -4, False), ("x", 3, False), ("y", 2, True)]),
        ):
            self.assertEqual(steps_of(ring(), way), told)

    def test_kinds_of_values(self):
        told = steps_of(ring(), [(0, False), (1, True)])
        self.assertIs(told.__class__, list)
        for step, back in zip(told, (False, True)):
            self.assertIs(step.__class__, tuple)
            self.assertEqual([part.__class__ for part in step], [str, int, bool])
            self.assertIs(step[2], back)

    def test_great_weights(self):
        web = web_tied("a", [("a", "x", "a", GREATEST), ("a", "x", "a", -GREATEST)])
        self.assertEqual(steps_of(web, [(1, False), (0, True)]), [("x", -GREATEST, False), ("x", GREATEST, True)])

    def test_ties_that_are_not_there(self):
        for number in NO_TIES:
            for back in (False, True):
                for way in ([(number, back)], [(number, back), (0, False)], [(0, False), (number, back), (0, True)],
                            [(0, False), (0, True), (number, back)], [(2, True), (0, False), (number, back)]):
                    with self.subTest(way):
                        web = small_web()
                        refused_unchanged(self, web, NoWay, steps_of, web, way)

    def test_1000_ties(self):
        self.assertEqual(steps_of(ring(), [(0, False), (3, True)] * 500), [("x", 1, False), ("z", -4, True)] * 500)
        refused(self, NoWay, steps_of, ring(), [(0, False)] * 999 + [(4, False)])


class TurnedWay(unittest.TestCase):
    """[5.1]"""

    def test_no_one_and_more_pairs(self):
        for way, told in (
            ([], []), ([(0, False)], [(0, True)]), ([(7, True)], [(7, False)]),
            ([(0, False), (1, False)], [(1, True), (0, True)]),
            ([(0, False), (0, True)], [(0, False), (0, True)]),
            ([(3, True), (5, False), (4, False)], [(4, True), (5, True), (3, False)]),
            # Whether the ties are there, or go on, is not looked at.
            ([(-1, True), (10 ** 70, False)], [(10 ** 70, True), (-1, False)]),
        ):
            with self.subTest(way):
                self.assertEqual(turned_way(way), told)
                self.assertEqual(turned_way(told), way)

    def test_kinds_of_values(self):
        told = turned_way([(3, True), (5, False)])
        self.assertIs(told.__class__, list)
        for pair, back in zip(told, (True, False)):
            self.assertIs(pair.__class__, tuple)
            self.assertIs(pair[1], back)

    def test_leads_back(self):
        for web in search_webs():
            for start in web.things():
                for way, told in all_ways(web, start, 4):
                    with self.subTest(start=start, way=way):
                        self.assertEqual(walked(web, told, turned_way(way)), start)
                        self.assertEqual(turned_way(turned_way(way)), way)

    def test_1000_ties(self):
        way = [(number, number % 3 == 0) for number in range(1000)]
        told = turned_way(way)
        self.assertEqual(told, [(999 - place, (999 - place) % 3 != 0) for place in range(1000)])
        self.assertEqual(turned_way(told), way)
        way = [(0, False), (1, False), (2, False)] * 333 + [(0, False)]
        self.assertEqual(walked(ring(), "a", way), "b")
        self.assertEqual(walked(ring(), "b", turned_way(way)), "a")


class Told(unittest.TestCase):
    """[0.3]"""

    WAY = [(0, False), (3, True), (1, False)]

    def test_what_is_handed_in_stays(self):
        web = ring()
        for way in ([], self.WAY, [(0, False), (0, True)]):
            ahead = copy.deepcopy(way)
            walked(web, "a", way)
            steps_of(web, way)
            turned_way(way)
            self.assertEqual(way, ahead)
        self.assertEqual(shown(web), shown(ring()))
        self.assertEqual(web.add_tie("a", "x", "a"), 4)

    def test_the_lists_told_are_the_askers_own(self):
        web = ring()
        for way in ([], list(self.WAY)):
            ahead = list(way)
            for call in (turned_way, lambda given: steps_of(web, given)):
                kept = call(way)
                told = call(way)
                no_list_twice(self, way, kept, told)
                told.append((9, True))
                told.insert(0, (9, True))
                self.assertEqual(way, ahead)
                self.assertEqual(kept, call(way))
        self.assertEqual(shown(web), shown(ring()))

    def test_what_was_handed_in_is_not_looked_at_again(self):
        web = ring()
        way = list(self.WAY)
        told = (steps_of(web, way), turned_way(way))
        ahead = copy.deepcopy(told)
        way.clear()
        web.cut_tie(0)
        self.assertEqual(told, ahead)


if __name__ == "__main__":
    unittest.main()
