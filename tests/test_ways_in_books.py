import copy
import unittest

from tieseek.machine import machine
from tieseek.pattern import read_pattern
from tieseek.search import book, ends_in, way_in

from helper import (
    full_web, led_to, long_search, mark, no_list_twice, search_machines, search_webs, shown, states_from, step_fits,
    way_steps, web_tied,
)

# A web, a machine of a mark forwards and two backwards, and a book for them, written by hand:
# its entries of the same far stand in another order than that in which the search comes to them.
TIES = [("b", "x", "d"), ("b", "x", "d"), ("a", "x", "b"), ("a", "x", "b"), ("c", "y", "a"), ("b", "y", "c")]
MADE = ([mark("x"), mark("y", True), mark("x", True)], [[1, 2], [1, 3], [2], [1]], [False, True, False, True])
ENTRIES = [
    ("a", 0, 0, -1, -1), ("c", 2, 1, 4, 0), ("b", 1, 1, 3, 0), ("b", 2, 2, 5, 1), ("a", 3, 2, 2, 2),
    ("d", 1, 2, 0, 2), ("b", 3, 3, 1, 5),
]


def made_of(text):
    return machine(read_pattern(text))


def rooms_led_to(made, steps):
    """[4.3]"""
    rooms = {0}
    for step in steps:
        rooms = {other for room in rooms for other in made[1][room] if step_fits(made[0][other - 1], step)}
    return rooms


class WayIn(unittest.TestCase):
    """[5.4]"""

    def check(self, web, made, start):
        told = book(web, made, start)
        for place, entry in enumerate(told):
            way = way_in(made, told, place)
            with self.subTest(made=made, told=told, place=place, way=way):
                self.assertIs(way.__class__, list)
                self.assertEqual(len(way), entry[2])
                self.assertEqual(led_to(web, start, way), entry[0])
                self.assertIn(entry[1], rooms_led_to(made, way_steps(web, way)))
                self.check_line(made, told, place, way)

    def check_line(self, made, told, place, way):
        """Asks that the ties are those of the entries on the line, each gone as its room's mark has it."""
        for number, back in reversed(way):
            thing, room, far, own, before = told[place]
            self.assertEqual((number, back), (own, made[0][room - 1][2]))
            self.assertIs(back.__class__, bool)
            place = before
        self.assertEqual(place, 0)

    def test_the_first_entry(self):
        for web in search_webs():
            for made in search_machines():
                self.assertEqual(way_in(made, book(web, made, "a"), 0), [])
        self.assertEqual(way_in(MADE, ENTRIES, 0), [])

    def test_a_book_written_by_hand(self):
        self.assertEqual(dict([(entry[:2], entry[2]) for entry in ENTRIES]),
                         states_from(web_tied("abcd", TIES), MADE, "a"))
        for place, way in (
            (1, [(4, True)]), (2, [(3, False)]), (3, [(4, True), (5, True)]), (4, [(3, False), (2, True)]),
            (5, [(3, False), (0, False)]), (6, [(3, False), (0, False), (1, True)]),
        ):
            self.assertEqual(way_in(MADE, ENTRIES, place), way)

    def test_a_tie_gone_to_and_fro(self):
        web = web_tied("ab", [("a", "x", "b", 0)])
        made = made_of("x.<x.x")
        told = book(web, made, "a")
        self.assertEqual([way_in(made, told, place) for place in range(4)],
                         [[], [(0, False)], [(0, False), (0, True)], [(0, False), (0, True), (0, False)]])

    def test_all_webs_and_machines(self):
        for web in search_webs():
            for made in search_machines():
                for start in web.things():
                    self.check(web, made, start)

    def test_a_full_web(self):
        self.check(full_web(), made_of("(x[>30]|<y).x"), "aa")

    def test_ways_of_more_than_1000_ties(self):
        web, made = long_search()
        told = book(web, made, "aa")
        for place in (999, 1000, 1001, 2328):
            self.assertEqual(way_in(made, told, place), [(number % 97, False) for number in range(place)])


class EndsIn(unittest.TestCase):
    """[5.5]"""

    def check(self, made, entries):
        told = ends_in(made, entries)
        with self.subTest(made=made, entries=entries):
            self.assertIs(told.__class__, list)
            for pair in told:
                self.assertEqual((pair.__class__, len(pair)), (tuple, 2))
            ends = [(entry[0], place) for place, entry in enumerate(entries) if made[2][entry[1]] is True]
            firsts = [(thing, place) for thing, place in ends if thing not in [one for one, at in ends if at < place]]
            self.assertEqual(told, firsts)
        return told

    def test_a_book_written_by_hand(self):
        self.assertEqual(ends_in(MADE, ENTRIES), [("b", 2), ("a", 4), ("d", 5)])

    def test_no_end(self):
        self.assertEqual(ends_in((MADE[0], MADE[1], [False] * 4), ENTRIES), [])
        web = web_tied("ab", [("a", "x", "b", 0)])
        for text in ("y", "x.x", "<x"):
            self.assertEqual(ends_in(made_of(text), book(web, made_of(text), "a")), [])
        self.assertEqual(ends_in(([], [[]], [False]), [("a", 0, 0, -1, -1)]), [])

    def test_the_start_an_end(self):
        self.assertEqual(ends_in((MADE[0], MADE[1], [True, False, False, False]), ENTRIES), [("a", 0)])
        self.assertEqual(ends_in(([], [[]], [True]), [("a", 0, 0, -1, -1)]), [("a", 0)])
        self.assertEqual(ends_in((MADE[0], MADE[1], [True] * 4), ENTRIES), [("a", 0), ("c", 1), ("b", 2), ("d", 5)])
        web = web_tied("ab", [("a", "x", "b", 0), ("b", "x", "a", 0)])
        made = made_of("x*")
        self.assertEqual(ends_in(made, book(web, made, "a")), [("a", 0), ("b", 1)])
        made = made_of("x+")
        self.assertEqual(ends_in(made, book(web, made, "a")), [("b", 1), ("a", 2)])

    def test_one_thing_at_several_ends(self):
        web = web_tied("a", [("a", "x", "a", 0)])
        for text, place in (("x|x", 1), ("x*.x*", 0), ("x.x?.x?", 1)):
            made = made_of(text)
            self.assertEqual(ends_in(made, book(web, made, "a")), [("a", place)])

    def test_by_rising_places_not_by_things(self):
        web = web_tied("abc", [("a", "x", "c", 0), ("c", "x", "b", 0)])
        made = made_of("x+")
        self.assertEqual(ends_in(made, book(web, made, "a")), [("c", 1), ("b", 2)])

    def test_all_webs_and_machines(self):
        ends = 0
        for web in search_webs():
            for made in search_machines():
                for start in web.things():
                    ends += len(self.check(made, book(web, made, start)))
        self.assertGreater(ends, 500)

    def test_many_entries(self):
        web, made = long_search()
        told = self.check(made, book(web, made, "aa"))
        self.assertEqual(told[0], ("ay", 24))
        self.assertEqual(len(told), 97)


class Told(unittest.TestCase):
    """[0.3]"""

    def test_what_is_handed_in_stays(self):
        ahead = copy.deepcopy((MADE, ENTRIES))
        for place in range(len(ENTRIES)):
            way_in(MADE, ENTRIES, place)
        ends_in(MADE, ENTRIES)
        self.assertEqual((MADE, ENTRIES), ahead)
        web = search_webs()[4]
        shown_ahead = shown(web)
        for made in search_machines():
            entries = book(web, made, "a")
            ahead = copy.deepcopy((made, entries))
            way_in(made, entries, len(entries) - 1)
            ends_in(made, entries)
            self.assertEqual((made, entries), ahead)
        self.assertEqual(shown(web), shown_ahead)

    def test_the_lists_told_are_the_askers_own(self):
        made, entries = copy.deepcopy((MADE, ENTRIES))
        calls = [lambda place=place: way_in(made, entries, place) for place in range(len(entries))]
        for call in calls + [lambda: ends_in(made, entries)]:
            kept = call()
            ahead = list(kept)
            told = call()
            no_list_twice(self, made, entries, kept, told)
            told.append((9, True))
            told.insert(0, None)
            self.assertEqual(kept, ahead)
            self.assertEqual(call(), ahead)
            self.assertEqual((made, entries), (MADE, ENTRIES))

    def test_what_was_handed_in_is_not_looked_at_again(self):
        made, entries = copy.deepcopy((MADE, ENTRIES))
        way, ends = way_in(made, entries, 6), ends_in(made, entries)
        entries.clear()
        for part in made:
            part.clear()
        self.assertEqual(way, [(3, False), (0, False), (1, True)])
        self.assertEqual(ends, [("b", 2), ("a", 4), ("d", 5)])


if __name__ == "__main__":
    unittest.main()
