import copy
import unittest

from tieseek.errors import NoThing
from tieseek.machine import machine
from tieseek.pattern import read_pattern
from tieseek.search import reached

from helper import (
    BAD_NAMES, all_ways, fit, full_web, led_to, lists_within, mark, name_at, next_number, no_list_twice,
    refused_unchanged, search_trees, search_webs, shown, small_web, states_from, way_steps, web_of_things, web_tied,
)

# No way that is told for search_webs has more ties than one more than this.
MOST = 5


class Checks(unittest.TestCase):
    def check(self, web, tree, start, ways):
        """Asks for all that [5.6] tells; the ways are all those of at most MOST ties from the start."""
        told = reached(web, tree, start)
        with self.subTest(start=start, tree=tree, told=told):
            self.check_kinds(told)
            things = [thing for thing, way in told]
            self.assertEqual(things, [thing for thing in web.things() if thing in things])
            fewest = {}
            for way, thing in ways:
                if thing not in fewest and fit(tree, way_steps(web, way)):
                    fewest[thing] = len(way)
            for thing, way in told:
                self.assertEqual(led_to(web, start, way), thing)
                self.assertTrue(fit(tree, way_steps(web, way)))
                self.assertEqual(len(way), fewest.get(thing, MOST + 1))
            self.assertEqual(sorted(things), sorted(self.things_at_ends(web, tree, start)))
        return told

    def things_at_ends(self, web, tree, start):
        made = machine(tree)
        return {thing for thing, room in states_from(web, made, start) if made[2][room]}

    def check_kinds(self, told):
        self.assertIs(told.__class__, list)
        for pair in told:
            self.assertEqual((pair.__class__, len(pair)), (tuple, 2))
            self.assertEqual((pair[0].__class__, pair[1].__class__), (str, list))
            for step in pair[1]:
                self.assertEqual((step.__class__, [part.__class__ for part in step]), (tuple, [int, bool]))

    def check_told(self, web, text, start, told):
        with self.subTest(text=text, start=start):
            self.assertEqual(reached(web, read_pattern(text), start), told)


class Reached(Checks):
    """[5.6]"""

    def test_one_tie(self):
        web = web_tied("ab", [("a", "x", "b", 2)])
        for text, start, told in (
            ("x", "a", [("b", [(0, False)])]), ("x", "b", []), ("<x", "a", []), ("<x", "b", [("a", [(0, True)])]),
            ("_", "a", [("b", [(0, False)])]), ("<_", "b", [("a", [(0, True)])]), ("y", "a", []), ("x.x", "a", []),
            ("x.<x", "a", [("a", [(0, False), (0, True)])]),
        ):
            self.check_told(web, text, start, told)

    def test_the_empty_way(self):
        web = web_tied("ab", [("a", "x", "b", 2)])
        for text in ("x*", "x?", "x+?", "x*.x*", "(x?)+"):
            self.check_told(web, text, "a", [("a", []), ("b", [(0, False)])])
            self.check_told(web, text, "b", [("b", [])])
            self.check_told(web_tied("a", [("a", "x", "a")]), text, "a", [("a", [])])
            self.check_told(web_tied("ba", []), text, "a", [("a", [])])
        self.check_told(web_tied("a", [("a", "x", "a")]), "x+", "a", [("a", [(0, False)])])

    def test_in_the_order_of_the_things(self):
        ties = [("a", "x", "b"), ("b", "x", "c"), ("c", "x", "d")]
        ways = {"a": [], "b": [(0, False)], "c": [(0, False), (1, False)], "d": [(0, False), (1, False), (2, False)]}
        for names in ("abcd", "dcba", "cadb", "bdac"):
            self.check_told(web_tied(names, ties), "x*", "a", [(name, ways[name]) for name in names])
            self.check_told(web_tied(names, ties), "x.x+", "a",
                            [(name, ways[name]) for name in names if name in "cd"])

    def test_a_thing_that_was_dropped_and_came_again(self):
        web = web_tied("abc", [])
        web.drop_thing("a")
        web.add_thing("a")
        web.add_tie("b", "x", "a")
        web.add_tie("b", "x", "c")
        self.check_told(web, "x?", "b", [("b", []), ("c", [(1, False)]), ("a", [(0, False)])])

    def test_the_fewest_ties(self):
        web = web_tied("abcd", [("a", "x", "b", 0), ("b", "x", "c", 0), ("c", "x", "d", 0), ("a", "y", "c", 0)])
        self.check_told(web, "(x|y)*", "a", [
            ("a", []), ("b", [(0, False)]), ("c", [(3, False)]), ("d", [(3, False), (2, False)]),
        ])
        self.check_told(web, "x*", "a", [
            ("a", []), ("b", [(0, False)]), ("c", [(0, False), (1, False)]),
            ("d", [(0, False), (1, False), (2, False)]),
        ])
        # Of the two parts the one that is told later has the shorter way.
        self.check_told(web, "x.x|y", "a", [("c", [(3, False)])])

    def test_fewest_of_those_that_fit(self):
        # To b one tie leads, but three of them fit.
        web = web_tied("ab", [("a", "y", "b", 0), ("a", "x", "b", 0), ("b", "x", "a", 0)])
        self.check_told(web, "x.x.x", "a", [("b", [(1, False), (2, False), (1, False)])])
        self.check_told(web, "(x.x)+.y", "a", [("b", [(1, False), (2, False), (0, False)])])

    def test_which_of_several_ways_is_not_asked(self):
        web = web_tied("abcd", [("a", "x", "b", 0), ("a", "x", "c", 0), ("b", "x", "d", 0), ("c", "x", "d", 0)])
        told = reached(web, read_pattern("x.x"), "a")
        self.assertIn(told, [[("d", [(0, False), (2, False)])], [("d", [(1, False), (3, False)])]])

    def test_backwards(self):
        web = web_tied("abc", [("a", "x", "b", 0), ("c", "x", "b", 0)])
        self.check_told(web, "x.<x", "a", [("a", [(0, False), (0, True)]), ("c", [(0, False), (1, True)])])
        self.check_told(web, "<x", "b", [("a", [(0, True)]), ("c", [(1, True)])])
        self.check_told(web, "(x|<x)*", "c", [
            ("a", [(1, False), (0, True)]), ("b", [(1, False)]), ("c", []),
        ])

    def test_conditions(self):
        web = web_tied("abcd", [("a", "x", "b", 1), ("a", "x", "c", 2), ("a", "x", "d", 3), ("d", "x", "a", -2)])
        for sign, told in (("<", "b"), ("=", "c"), (">", "d"), ("!", "bd")):
            ways = {"b": [(0, False)], "c": [(1, False)], "d": [(2, False)]}
            self.check_told(web, "x[" + sign + "2]", "a", [(name, ways[name]) for name in told])
        self.check_told(web, "x[<-1].x[>2]", "d", [("d", [(3, False), (2, False)])])
        self.check_told(web, "<x[<-1]", "a", [("d", [(3, True)])])

    def test_all_webs_and_patterns(self):
        pairs = 0
        for web in search_webs():
            for start in web.things():
                ways = all_ways(web, start, MOST)
                for tree in search_trees():
                    pairs += len(self.check(web, tree, start, ways))
        self.assertGreater(pairs, 500)

    def test_a_full_web(self):
        web = full_web()
        told = reached(web, read_pattern("(x|<y)*"), "aa")
        self.assertEqual([thing for thing, way in told], web.things())
        states = states_from(web, machine(read_pattern("(x|<y)*")), "aa")
        for thing, way in told:
            self.assertEqual(led_to(web, "aa", way), thing)
            self.assertEqual(len(way), min(states[state] for state in states if state[0] == thing))

    def test_a_long_way(self):
        web = web_of_things(100)
        for place in range(99):
            web.add_tie(name_at(place), "x", name_at(place + 1))
        told = reached(web, read_pattern("(x.x.x)+"), name_at(0))
        self.assertEqual(told, [(name_at(count), [(number, False) for number in range(count)])
                                for count in range(3, 100, 3)])

    def test_24_marks(self):
        web = web_tied("ab", [("a", "x", "b"), ("b", "x", "a")])
        tree = mark("x")
        for turn in range(23):
            tree = ("row", tree, mark("x"))
        self.assertEqual(reached(web, tree, "a"), [("a", [(0, False), (1, False)] * 12)])
        self.assertEqual(reached(web, ("some", tree), "b"), [("b", [(1, False), (0, False)] * 12)])


class Refused(Checks):
    """[5.6]: NoThing."""

    def test_no_start(self):
        for start in BAD_NAMES + ("oak", "su", "sunn", "near", "warms", "age"):
            for text in ("near", "_*", "<warms?"):
                with self.subTest(start=start, text=text):
                    web = small_web()
                    refused_unchanged(self, web, NoThing, reached, web, read_pattern(text), start)

    def test_a_start_that_was_dropped(self):
        web = small_web()
        web.add_thing("oak")
        self.check_told(web, "_*", "oak", [("oak", [])])
        web.drop_thing("oak")
        refused_unchanged(self, web, NoThing, reached, web, read_pattern("_*"), "oak")


class Told(Checks):
    """[0.3]"""

    def test_what_is_handed_in_stays(self):
        for web in search_webs():
            ahead = (shown(web), next_number(web))
            for tree in search_trees():
                tree_ahead = copy.deepcopy(tree)
                reached(web, tree, "a")
                self.assertEqual(tree, tree_ahead)
            self.assertEqual((shown(web), next_number(web)), ahead)

    def test_no_two_lists_are_the_same_one(self):
        for web in search_webs():
            for tree in search_trees():
                told = reached(web, tree, "a")
                no_list_twice(self, told, reached(web, tree, "a"), reached(web, tree, "b"))
                self.assertEqual(len(lists_within(told)), 1 + len(told))

    def test_the_lists_told_are_the_askers_own(self):
        for web in search_webs():
            ahead = shown(web)
            for tree in search_trees():
                kept = reached(web, tree, "a")
                first = copy.deepcopy(kept)
                for one in lists_within(reached(web, tree, "a")):
                    one.append((9, True))
                    one.insert(0, (9, True))
                self.assertEqual(kept, first)
                self.assertEqual([(thing, len(way)) for thing, way in reached(web, tree, "a")],
                                 [(thing, len(way)) for thing, way in first])
            self.assertEqual(shown(web), ahead)

    def test_what_is_told_stays_when_the_web_is_changed(self):
        web = web_tied("abc", [("a", "x", "b", 1), ("b", "x", "c", 2)])
        tree = read_pattern("x+")
        kept = reached(web, tree, "a")
        self.assertEqual(kept, [("b", [(0, False)]), ("c", [(0, False), (1, False)])])
        web.add_tie("a", "x", "c", 0)
        self.assertEqual(reached(web, tree, "a"), [("b", [(0, False)]), ("c", [(2, False)])])
        web.cut_tie(0)
        web.cut_tie(1)
        web.drop_thing("b")
        self.assertEqual(reached(web, tree, "a"), [("c", [(2, False)])])
        web.cut_tie(2)
        self.assertEqual(reached(web, tree, "a"), [])
        self.assertEqual(kept, [("b", [(0, False)]), ("c", [(0, False), (1, False)])])


if __name__ == "__main__":
    unittest.main()
