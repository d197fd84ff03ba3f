import copy
import unittest

from tieseek.errors import NoThing
from tieseek.machine import machine
from tieseek.pattern import read_pattern
from tieseek.search import book

from helper import (
    BAD_NAMES, full_web, long_search, mark, next_number, no_list_twice, refused_unchanged, search_machines,
    search_webs, shown, small_web, states_from, states_on, web_tied,
)

X = mark("x")


def made_of(text):
    return machine(read_pattern(text))


def greatest_machine():
    """24 marks, each of which may follow each."""
    tree = mark("_")
    for place in range(23):
        tree = ("or", tree, mark("xy"[place % 2], place % 3 == 0))
    return machine(("many", tree))


class Checks(unittest.TestCase):
    def check(self, web, made, start):
        """Asks for all that [5.3] tells of a book."""
        told = book(web, made, start)
        with self.subTest(start=start, made=made, told=told):
            self.check_kinds(told)
            self.assertEqual(told[0], (start, 0, 0, -1, -1))
            states = states_from(web, made, start)
            self.assertEqual([(thing, room) for thing, room, far, number, before in told],
                             list(dict([(entry[:2], True) for entry in told])))
            self.assertEqual({entry[:2]: entry[2] for entry in told}, states)
            self.assertEqual([entry[2] for entry in told], sorted(states.values()))
            for entry in told[1:]:
                self.check_before(web, made, told, entry)
        return told

    def check_kinds(self, told):
        self.assertIs(told.__class__, list)
        for entry in told:
            self.assertIs(entry.__class__, tuple)
            self.assertEqual([part.__class__ for part in entry], [str, int, int, int, int])

    def check_before(self, web, made, told, entry):
        thing, room, far, number, before = entry
        self.assertIn(before, range(len(told)))
        self.assertEqual(told[before][2], far - 1)
        self.assertIn((number, (thing, room)), states_on(web, made, told[before][:2]))


class Book(Checks):
    """[5.2], [5.3]"""

    def test_without_ties(self):
        web = web_tied("ab", [])
        for made in search_machines():
            self.assertEqual(book(web, made, "a"), [("a", 0, 0, -1, -1)])
            self.assertEqual(book(web, made, "b"), [("b", 0, 0, -1, -1)])

    def test_a_tie_forwards_and_backwards(self):
        web = web_tied("ab", [("a", "x", "b", 2)])
        for text, start, told in (
            ("x", "a", [("b", 1, 1, 0, 0)]), ("x", "b", []), ("<x", "b", [("a", 1, 1, 0, 0)]), ("<x", "a", []),
            ("y", "a", []), ("_", "a", [("b", 1, 1, 0, 0)]), ("<_", "b", [("a", 1, 1, 0, 0)]),
            ("x[>1]", "a", [("b", 1, 1, 0, 0)]), ("x[>2]", "a", []), ("x[<2]", "a", []), ("x[!2]", "a", []),
            ("x[=2]", "a", [("b", 1, 1, 0, 0)]), ("<x[<3]", "b", [("a", 1, 1, 0, 0)]),
            ("x.<x", "a", [("b", 1, 1, 0, 0), ("a", 2, 2, 0, 1)]),
        ):
            with self.subTest(text=text, start=start):
                self.assertEqual(book(web, made_of(text), start), [(start, 0, 0, -1, -1)] + told)

    def test_a_line(self):
        web = web_tied("abcd", [("c", "x", "d", 0), ("b", "x", "c", 0), ("a", "x", "b", 0)])
        self.assertEqual(book(web, made_of("x*"), "a"), [
            ("a", 0, 0, -1, -1), ("b", 1, 1, 2, 0), ("c", 1, 2, 1, 1), ("d", 1, 3, 0, 2),
        ])
        self.assertEqual(book(web, made_of("<x+"), "c"), [
            ("c", 0, 0, -1, -1), ("b", 1, 1, 1, 0), ("a", 1, 2, 2, 1),
        ])
        self.assertEqual(book(web, made_of("x.x"), "b"), [
            ("b", 0, 0, -1, -1), ("c", 1, 1, 1, 0), ("d", 2, 2, 0, 1),
        ])

    def test_a_ring(self):
        web = web_tied("ab", [("a", "x", "b", 0), ("b", "x", "a", 0)])
        # The start comes back in another room; then nothing is new.
        self.assertEqual(book(web, made_of("x*"), "a"), [
            ("a", 0, 0, -1, -1), ("b", 1, 1, 0, 0), ("a", 1, 2, 1, 1),
        ])

    def test_a_tie_from_a_thing_to_itself(self):
        web = web_tied("a", [("a", "x", "a", 0)])
        self.assertEqual(book(web, made_of("x*"), "a"), [("a", 0, 0, -1, -1), ("a", 1, 1, 0, 0)])
        self.assertEqual(book(web, made_of("<x.x"), "a"), [
            ("a", 0, 0, -1, -1), ("a", 1, 1, 0, 0), ("a", 2, 2, 0, 1),
        ])

    def test_ties_alike_in_all_but_the_number(self):
        web = web_tied("ab", [("a", "x", "b", 1)] * 3)
        told = self.check(web, made_of("x"), "a")
        self.assertEqual(len(told), 2)
        self.assertIn(told[1], [("b", 1, 1, number, 0) for number in range(3)])

    def test_the_fewest_ties(self):
        # From a to d by three x, or by y and x; the longer one has the lower numbers.
        web = web_tied("abcd", [("a", "x", "b", 0), ("b", "x", "c", 0), ("c", "x", "d", 0), ("a", "y", "c", 0)])
        told = self.check(web, made_of("(x|y)*"), "a")
        self.assertIn(("c", 2, 1, 3, 0), told)
        self.assertEqual([entry[2] for entry in told if entry[0] == "d"], [2])

    def test_a_state_in_each_room(self):
        web = web_tied("a", [("a", "x", "a", 0)])
        told = self.check(web, made_of("x*.x*.x*"), "a")
        self.assertEqual(sorted([entry[:3] for entry in told]), [("a", 0, 0), ("a", 1, 1), ("a", 2, 1), ("a", 3, 1)])

    def test_all_webs_and_machines(self):
        entries = 0
        for web in search_webs():
            for made in search_machines():
                for start in web.things():
                    entries += len(self.check(web, made, start))
        self.assertGreater(entries, 1500)

    def test_machines_that_no_pattern_gives(self):
        web = web_tied("ab", [("a", "x", "b", 0), ("b", "x", "a", 0)])
        for made, told in (
            (([], [[]], [True]), []),
            (([], [[]], [False]), []),
            (([X, X], [[], [1, 2], [1, 2]], [True, True, True]), []),
            (([X, X], [[2], [1], []], [False, False, False]), [("b", 2, 1, 0, 0)]),
            (([X], [[1], []], [False, False]), [("b", 1, 1, 0, 0)]),
        ):
            with self.subTest(made):
                self.assertEqual(book(web, made, "a"), [("a", 0, 0, -1, -1)] + told)

    def test_asked_again_when_the_web_was_changed(self):
        web = web_tied("abc", [("a", "x", "b", 1), ("b", "x", "c", 2)])
        made = made_of("x*")
        kept = book(web, made, "a")
        ahead = list(kept)
        self.assertEqual(len(kept), 3)
        web.cut_tie(1)
        self.assertEqual(book(web, made, "a"), [("a", 0, 0, -1, -1), ("b", 1, 1, 0, 0)])
        web.add_thing("d")
        web.add_tie("a", "x", "d", 0)
        self.assertEqual(len(self.check(web, made, "a")), 3)
        web.add_tie("d", "x", "c", 0)
        self.assertIn(("c", 1, 2, 3), [entry[:4] for entry in self.check(web, made, "a")])
        self.assertEqual(kept, ahead)

    def test_a_full_web(self):
        web = full_web()
        self.check(web, made_of("(x|<y)*.y[>-50]"), "aa")
        self.check(web, made_of("x[=2]+.<y"), "bz")

    def test_all_states(self):
        # 100 things in each of 24 rooms, and the start.
        web = full_web()
        told = book(web, greatest_machine(), "ab")
        self.assertEqual(len(told), 2401)
        self.assertEqual(len({entry[:2] for entry in told}), 2401)
        self.assertEqual([entry[2] for entry in told], sorted([entry[2] for entry in told]))

    def test_far_states(self):
        web, made = long_search()
        told = book(web, made, "aa")
        # The thing and the room come back together behind 97 * 24 ties.
        self.assertEqual([entry[2] for entry in told], list(range(2329)))
        self.assertEqual(told[2328], ("aa", 24, 2328, 96, 2327))


class Refused(Checks):
    """[5.3]: NoThing."""

    def test_no_start(self):
        for start in BAD_NAMES + ("oak", "su", "sunn", "near", "warms", "age"):
            for made in (made_of("near"), made_of("_*"), ([], [[]], [True])):
                with self.subTest(start=start, made=made):
                    web = small_web()
                    refused_unchanged(self, web, NoThing, book, web, made, start)

    def test_a_start_that_was_dropped(self):
        web = small_web()
        web.add_thing("oak")
        self.assertEqual(book(web, made_of("_"), "oak"), [("oak", 0, 0, -1, -1)])
        web.drop_thing("oak")
        refused_unchanged(self, web, NoThing, book, web, made_of("_"), "oak")

    def test_a_web_without_things(self):
        web = web_tied("", [])
        refused_unchanged(self, web, NoThing, book, web, made_of("x*"), "a")


class Told(Checks):
    """[0.3]"""

    def test_what_is_handed_in_stays(self):
        for web in search_webs():
            ahead = (shown(web), next_number(web))
            for made in search_machines():
                machine_ahead = copy.deepcopy(made)
                book(web, made, "a")
                self.assertEqual(made, machine_ahead)
            self.assertEqual((shown(web), next_number(web)), ahead)

    def test_the_list_told_is_the_askers_own(self):
        for web in search_webs():
            ahead = shown(web)
            for made in search_machines():
                machine_ahead = copy.deepcopy(made)
                kept = book(web, made, "a")
                first = list(kept)
                told = book(web, made, "a")
                no_list_twice(self, made, kept, told)
                told.append(("a", 0, 0, -1, -1))
                told.insert(0, None)
                self.assertEqual(kept, first)
                self.assertEqual(made, machine_ahead)
                self.check(web, made, "a")
            self.assertEqual(shown(web), ahead)

    def test_what_was_handed_in_is_not_looked_at_again(self):
        web = web_tied("ab", [("a", "x", "b", 1)])
        made = made_of("x*")
        told = book(web, made, "a")
        for part in made:
            part.clear()
        web.cut_tie(0)
        self.assertEqual(told, [("a", 0, 0, -1, -1), ("b", 1, 1, 0, 0)])


if __name__ == "__main__":
    unittest.main()
