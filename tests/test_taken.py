import copy
import itertools
import unittest

from tieseek.machine import machine, rooms_behind, run_of, taken
from tieseek.pattern import read_pattern

from helper import MARK_SIGNS, fit, mark, named_anew, no_list_twice, small_trees, step_fits, tall_trees

A, B = [mark(name) for name in "ab"]
# Machines that no pattern gives.
ODD_MACHINES = (
    ([], [[]], [True]),
    ([], [[]], [False]),
    # Nothing follows the start, though the others are ends.
    ([A, B], [[], [1, 2], [1]], [False, True, True]),
    # No end.
    ([A, B], [[1, 2], [1, 2], [1]], [False, False, False]),
    # The only end can't be come to.
    ([A, B, A], [[1], [2], [1], [1, 2, 3]], [False, False, False, True]),
    # The start is an end, and a room that is none leads nowhere.
    ([A, A], [[1, 2], [1], []], [True, True, False]),
    # From the same steps one is at several rooms, of which some lead on.
    ([A, A, A, B], [[1, 2, 3], [], [4], [3], [1, 4]], [False, False, False, False, True]),
    ([mark("_"), A, mark("_", True)], [[1, 2], [2, 3], [1], [1, 2, 3]], [False, False, True, True]),
)


def made_of(text):
    return machine(read_pattern(text))


def steps_by(text):
    """Steps of weight 0, written by their names, those gone backwards by capitals."""
    return [(sign.lower(), 0, sign.isupper()) for sign in text]


def goes(made, run, steps):
    """[4.3]: whether the steps lead through the rooms of a run."""
    rooms = [0] + list(run)
    return all(other in made[1][room] and step_fits(made[0][other - 1], step)
               for room, other, step in zip(rooms, rooms[1:], steps))


def all_runs(made, steps):
    """[4.3]: all lists of rooms through which the steps lead, found by trying every list."""
    rooms = range(1, len(made[0]) + 1)
    return [list(run) for run in itertools.product(rooms, repeat=len(steps)) if goes(made, run, steps)]


def step_lists(steps, most):
    return [list(told) for count in range(most + 1) for told in itertools.product(steps, repeat=count)]


STEPS = steps_by("abAB")


class Checks(unittest.TestCase):
    def check_run(self, made, steps, run):
        self.assertIs(run.__class__, list)
        self.assertEqual(len(run), len(steps))
        self.assertTrue(goes(made, run, steps), (made, steps, run))
        self.assertIs(made[2][([0] + run)[-1]], True)

    def check(self, made, steps, rooms):
        """Asks for these rooms behind the steps, and that taken and run_of go with them."""
        with self.subTest(made=made, steps=steps):
            self.assertEqual(rooms_behind(made, steps), rooms)
            self.check_taken(made, steps, any(made[2][room] for room in rooms))

    def check_taken(self, made, steps, told):
        self.assertIs(taken(made, steps), told)
        run = run_of(made, steps)
        if told:
            self.check_run(made, steps, run)
        else:
            self.assertIsNone(run)

    def check_by_trying(self, made, steps):
        runs = all_runs(made, steps)
        self.check(made, steps, sorted({([0] + run)[-1] for run in runs}))
        if taken(made, steps):
            self.assertIn(run_of(made, steps), runs)


class Steps(Checks):
    """[4.3]"""

    def test_no_steps(self):
        for text, told in (("a", False), ("a*", True), ("a+", False), ("a?", True), ("a.b", False), ("a|b?", True)):
            with self.subTest(text):
                self.assertEqual(rooms_behind(made_of(text), []), [0])
                self.assertIs(taken(made_of(text), []), told)
                self.assertEqual(run_of(made_of(text), []), [] if told else None)

    def test_one_step(self):
        for text, steps, rooms in (
            ("a", "a", [1]), ("a", "b", []), ("a", "A", []), ("<a", "A", [1]), ("_", "a", [1]), ("a|b", "b", [2]),
            ("a|a", "a", [1, 2]), ("a.b", "a", [1]), ("a.b", "b", []), ("a?.b", "b", [2]), ("a*.a", "a", [1, 2]),
        ):
            self.check(made_of(text), steps_by(steps), rooms)

    def test_many_steps(self):
        for text, steps, rooms in (
            ("a.b.c", "abc", [3]), ("a.b.c", "ab", [2]), ("a.b.c", "abcc", []), ("a.b.c", "aab", []),
            ("(a.b)*", "abab", [2]), ("(a.b)*", "aba", [1]), ("(a.b)*", "abb", []), ("(a|b)*.c", "abbac", [3]),
            ("(a|<a)+", "aAAa", [1]), ("(a|<a)+", "aAA", [2]), ("a.<b", "aB", [2]), ("a.<b", "ab", []),
        ):
            self.check(made_of(text), steps_by(steps), rooms)

    def test_several_rooms_at_once(self):
        self.check(made_of("a*.a*.a*"), steps_by("aaa"), [1, 2, 3])
        self.check(made_of("(a|_|a.b)*"), steps_by("a"), [1, 2, 3])
        self.check(made_of("(a|_|a.b)*"), steps_by("ab"), [2, 4])
        self.check(made_of("a.a|a.b|a.c"), steps_by("a"), [1, 3, 5])
        self.check(made_of("a.a|a.b|a.c"), steps_by("ac"), [6])

    def test_one_run_of_several(self):
        for text, steps, runs in (
            ("a|a", "a", [[1], [2]]), ("a.b|a.c", "ac", [[3, 4]]), ("(a|a).b", "ab", [[1, 3], [2, 3]]),
            ("a*.a", "aa", [[1, 2]]), ("a*.a*", "aa", [[1, 1], [1, 2], [2, 2]]), ("_.b|a.c", "ab", [[1, 2]]),
        ):
            with self.subTest(text):
                self.assertIn(run_of(made_of(text), steps_by(steps)), runs)

    def test_a_room_that_is_no_end(self):
        for text, steps in (("a.b", "a"), ("(a.b)+", "aba"), ("a.a.a", "aa"), ("a.b|a.c", "a")):
            made = made_of(text)
            self.assertNotEqual(rooms_behind(made, steps_by(steps)), [])
            self.assertIs(taken(made, steps_by(steps)), False)
            self.assertIsNone(run_of(made, steps_by(steps)))

    def test_an_end_beside_rooms_that_are_none(self):
        made = made_of("a|a.b|a.c")
        self.check(made, steps_by("a"), [1, 2, 4])
        self.assertEqual(run_of(made, steps_by("a")), [1])
        made = made_of("a.b|a.c|a")
        self.check(made, steps_by("a"), [1, 3, 5])
        self.assertEqual(run_of(made, steps_by("a")), [5])

    def test_no_room_stays_none(self):
        made = made_of("a*.b")
        for steps in ("c", "ca", "cab", "acb", "bb", "ba", "bab"):
            self.check(made, steps_by(steps), [])

    def test_conditions(self):
        made = machine(("row", mark("a", False, "<", 2), ("some", mark("_", True, "!", 0))))
        for steps, told in (
            ([("a", 1, False), ("b", 1, True)], True), ([("a", 2, False), ("b", 1, True)], False),
            ([("a", 1, False), ("b", 0, True)], False), ([("a", -9, False), ("b", 1, True), ("a", 2, True)], True),
            ([("a", 1, False), ("b", 1, True), ("b", 0, True)], False),
        ):
            self.check_taken(made, steps, told)


class Patterns(Checks):
    """[4.3]: a pattern's machine takes just the lists that fit the pattern."""

    def check_fit(self, tree, lists):
        made = machine(tree)
        count = 0
        for steps in lists:
            told = fit(tree, steps)
            count += told
            self.check_taken(made, steps, told)
        return count

    def test_all_small_ones(self):
        lists = step_lists(STEPS, 3)
        fitting = sum(self.check_fit(named_anew(tree, names), lists) for tree in small_trees()
                      for names in ("ab", "a", "_b"))
        self.assertGreater(fitting, 500)

    def test_tall_ones(self):
        lists = step_lists(steps_by("aB"), 5)
        fitting = sum(self.check_fit(named_anew(tree, "ab"), lists) for tree in tall_trees())
        self.assertGreater(fitting, 500)

    def test_with_conditions(self):
        steps = [(name, weight, False) for name in "ab" for weight in (1, 2, 3)]
        lists = step_lists(steps, 3)
        for sign in MARK_SIGNS[1:]:
            one, other = mark("a", False, sign, 2), mark("_", False, ">", 1)
            for tree in (("row", one, other), ("or", one, ("many", other)), ("some", ("row", other, ("maybe", one)))):
                self.assertGreater(self.check_fit(tree, lists), 0)

    def test_by_trying_all_runs(self):
        lists = step_lists(steps_by("ab"), 3)
        for text in ("a", "a|a.b", "(a|b)*.a", "a*.b?.a", "(a.b)+|a", "a*.a*.a*", "_.(a|b)+", "(a?.b?)*"):
            for steps in lists:
                self.check_by_trying(made_of(text), steps)


class OddMachines(Checks):
    """[4.1], [4.3]: machines that no pattern gives."""

    def test_by_trying_all_runs(self):
        for made in ODD_MACHINES:
            for steps in step_lists(STEPS, 4):
                self.check_by_trying(made, steps)

    def test_no_marks(self):
        self.check(([], [[]], [True]), [], [0])
        self.check(([], [[]], [True]), steps_by("a"), [])
        self.check(([], [[]], [False]), [], [0])
        self.assertEqual(run_of(([], [[]], [True]), []), [])
        self.assertIsNone(run_of(([], [[]], [False]), []))

    def test_an_end_that_cannot_be_come_to(self):
        made = ODD_MACHINES[4]
        for steps, rooms in (("", [0]), ("a", [1]), ("ab", [2]), ("aba", [1]), ("abab", [2]), ("aa", [])):
            self.check(made, steps_by(steps), rooms)
            self.assertIsNone(run_of(made, steps_by(steps)))

    def test_24_marks_that_all_follow(self):
        rooms = list(range(1, 25))
        made = ([A] * 24, [list(rooms) for room in range(25)], [False] * 24 + [True])
        self.check(made, steps_by("a" * 9), rooms)
        self.check(made, steps_by("aab"), [])


class Long(Checks):
    """[0.6], [0.7]: 1000 steps, and somewhat beyond."""

    def test_one_mark(self):
        for count in (1000, 1100):
            made = made_of("a+")
            self.check(made, steps_by("a" * count), [1])
            self.assertEqual(run_of(made, steps_by("a" * count)), [1] * count)
            self.check(made, steps_by("a" * (count - 1) + "b"), [])
            self.check(made, steps_by("b" + "a" * (count - 1)), [])
            self.check(made, steps_by("a" * (count // 2) + "A" + "a" * (count // 2)), [])

    def test_in_turn(self):
        made = made_of("(a.<b)*")
        self.check(made, steps_by("aB" * 500), [2])
        self.assertEqual(run_of(made, steps_by("aB" * 500)), [1, 2] * 500)
        self.check(made, steps_by("aB" * 499 + "a"), [1])

    def test_the_last_step_tells_the_run(self):
        made = made_of("a*.b|_*.c")
        self.assertEqual(run_of(made, steps_by("a" * 999 + "b")), [1] * 999 + [2])
        self.assertEqual(run_of(made, steps_by("a" * 999 + "c")), [3] * 999 + [4])
        self.assertIsNone(run_of(made, steps_by("a" * 1000)))

    def test_24_marks(self):
        choice, row = A, ("many", A)
        for turn in range(23):
            choice = ("or", choice, B if turn == 22 else A)
            row = ("row", row, ("many", A))
        made = machine(("many", choice))
        self.check(made, steps_by("ab" * 500), [24])
        self.check(made, steps_by("ba" * 500), list(range(1, 24)))
        self.check(machine(row), steps_by("a" * 1000), list(range(1, 25)))

    def test_a_longer_row(self):
        made = made_of(".".join(["a"] * 24))
        self.check(made, steps_by("a" * 24), [24])
        self.check(made, steps_by("a" * 23), [23])
        self.check(made, steps_by("a" * 1000), [])


class Told(Checks):
    """[0.3]"""

    def machines(self):
        return [made_of("(a|<b)*.a?"), made_of("a")] + [copy.deepcopy(made) for made in ODD_MACHINES]

    def test_what_is_handed_in_stays(self):
        for made in self.machines():
            for steps in step_lists(STEPS, 2):
                ahead = copy.deepcopy((made, steps))
                rooms_behind(made, steps)
                taken(made, steps)
                run_of(made, steps)
                self.assertEqual((made, steps), ahead)

    def test_the_lists_told_are_the_askers_own(self):
        for made in self.machines():
            for steps in step_lists(STEPS, 2):
                ahead = copy.deepcopy((made, steps))
                kept = (rooms_behind(made, steps), run_of(made, steps))
                told = copy.deepcopy(kept)
                no_list_twice(self, made, steps, kept, rooms_behind(made, steps), run_of(made, steps))
                for one in (rooms_behind(made, steps), run_of(made, steps) or []):
                    one.append(7)
                    one.insert(0, 7)
                self.assertEqual((made, steps), ahead)
                self.assertEqual(kept, told)
                self.assertEqual((rooms_behind(made, steps), run_of(made, steps)), told)

    def test_what_was_handed_in_is_not_looked_at_again(self):
        made = made_of("a*.b")
        steps = steps_by("ab")
        rooms, run = rooms_behind(made, steps), run_of(made, steps)
        steps.clear()
        for part in made:
            part.clear()
        self.assertEqual((rooms, run), ([2], [1, 2]))

    def test_answered_as_things_stand(self):
        made = made_of("a")
        self.assertIs(taken(made, steps_by("aa")), False)
        made[1][1].append(1)
        self.assertIs(taken(made, steps_by("aa")), True)
        self.assertEqual(run_of(made, steps_by("aa")), [1, 1])
        made[2][1] = False
        self.assertIs(taken(made, steps_by("aa")), False)
        made[0][0] = B
        self.assertEqual(rooms_behind(made, steps_by("aa")), [])


if __name__ == "__main__":
    unittest.main()
