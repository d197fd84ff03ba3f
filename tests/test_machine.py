import copy
import unittest

from tieseek.machine import machine
from tieseek.pattern import marks_of, read_pattern

from helper import in_turn, lists_within, mark, no_list_twice, small_trees, tall_trees

A, B, C = [mark(name) for name in "abc"]


def place_lists(tree, first, most):
    """[4.2]: the lists of at most so many places that fit, first being the place of the tree's first mark."""
    if tree[0] == "mark":
        return {(first,)}
    lists = place_lists(tree[1], first, most)
    if tree[0] in ("or", "row"):
        others = place_lists(tree[2], first + len(marks_of(tree[1])), most)
        return lists | others if tree[0] == "or" else behind(lists, others, most)
    if tree[0] != "maybe":
        lists = repeated(lists, most)
    return lists if tree[0] == "some" else lists | {()}


def behind(lists, others, most):
    return {one + other for one in lists for other in others if len(one) + len(other) <= most}


def repeated(lists, most):
    found = set(lists)
    newest = set(lists)
    while newest:
        newest = behind(newest, lists, most) - found
        found |= newest
    return found


def told_by_lists(tree):
    """[4.2]: follows and ends, from the lists of places that fit."""
    count = len(marks_of(tree))
    # One comes to a room, and from the next one to an end, through each room once at most.
    lists = place_lists(tree, 1, 2 * count)
    follows = [sorted({one[0] for one in lists if one})]
    pairs = {pair for one in lists for pair in zip(one, one[1:])}
    for room in range(1, count + 1):
        follows.append(sorted([other for ahead, other in pairs if ahead == room]))
    last = {one[-1] for one in lists if one}
    return (follows, [() in lists] + [room in last for room in range(1, count + 1)])


def with_marks_alike(tree):
    return A if tree[0] == "mark" else (tree[0],) + tuple([with_marks_alike(part) for part in tree[1:]])


class Kinds(unittest.TestCase):
    """[4.1], [4.2]: one kind of pattern round marks."""

    def check(self, tree, marks, follows, ends):
        with self.subTest(tree):
            self.assertEqual(machine(tree), (marks, follows, ends))

    def test_a_mark(self):
        for one in (A, mark("a", True), mark("_"), mark("near", True, "!", -3)):
            self.check(one, [one], [[1], []], [False, True])

    def test_a_row(self):
        self.check(("row", A, B), [A, B], [[1], [2], []], [False, False, True])

    def test_an_or(self):
        self.check(("or", A, B), [A, B], [[1, 2], [], []], [False, True, True])

    def test_a_many(self):
        self.check(("many", A), [A], [[1], [1]], [True, True])

    def test_a_some(self):
        self.check(("some", A), [A], [[1], [1]], [False, True])

    def test_a_maybe(self):
        self.check(("maybe", A), [A], [[1], []], [True, True])

    def test_rows_of_three(self):
        for tree in (("row", ("row", A, B), C), ("row", A, ("row", B, C))):
            self.check(tree, [A, B, C], [[1], [2], [3], []], [False, False, False, True])

    def test_ors_of_three(self):
        for tree in (("or", ("or", A, B), C), ("or", A, ("or", B, C))):
            self.check(tree, [A, B, C], [[1, 2, 3], [], [], []], [False, True, True, True])


class KindsWithinKinds(unittest.TestCase):
    """[4.2]"""

    def check(self, text, follows, ends):
        with self.subTest(text):
            tree = read_pattern(text)
            self.assertEqual(machine(tree), (marks_of(tree), follows, ends))

    def test_repeats_within_repeats(self):
        for text in ("a**", "a*+", "a*?", "a+*", "a+?", "a?*", "a?+"):
            self.check(text, [[1], [1]], [True, True])
        self.check("a++", [[1], [1]], [False, True])
        self.check("a??", [[1], []], [True, True])

    def test_repeats_round_rows_and_ors(self):
        self.check("(a.b)*", [[1], [2], [1]], [True, False, True])
        self.check("(a.b)+", [[1], [2], [1]], [False, False, True])
        self.check("(a.b)?", [[1], [2], []], [True, False, True])
        self.check("(a|b)*", [[1, 2], [1, 2], [1, 2]], [True, True, True])
        self.check("(a|b)+", [[1, 2], [1, 2], [1, 2]], [False, True, True])
        self.check("(a|b)?", [[1, 2], [], []], [True, True, True])

    def test_repeats_in_rows(self):
        self.check("a*.b", [[1, 2], [1, 2], []], [False, False, True])
        self.check("a+.b", [[1], [1, 2], []], [False, False, True])
        self.check("a?.b", [[1, 2], [2], []], [False, False, True])
        self.check("a.b*", [[1], [2], [2]], [False, True, True])
        self.check("a.b+", [[1], [2], [2]], [False, False, True])
        self.check("a.b?", [[1], [2], []], [False, True, True])

    def test_repeats_in_ors(self):
        self.check("a*|b", [[1, 2], [1], []], [True, True, True])
        self.check("a|b+", [[1, 2], [], [2]], [False, True, True])
        self.check("a|b?", [[1, 2], [], []], [True, True, True])

    def test_rows_and_ors_within_each_other(self):
        self.check("(a|b).c", [[1, 2], [3], [3], []], [False, False, False, True])
        self.check("a.(b|c)", [[1], [2, 3], [], []], [False, False, True, True])
        self.check("a.b|c", [[1, 3], [2], [], []], [False, False, True, True])
        self.check("a|b.c", [[1, 2], [], [3], []], [False, True, False, True])

    def test_rows_whose_parts_may_be_empty(self):
        for text in ("a?.b?", "(a?.b?)?"):
            self.check(text, [[1, 2], [2], []], [True, True, True])
        self.check("(a?.b?)*", [[1, 2], [1, 2], [1, 2]], [True, True, True])
        self.check("(a?.b?)+", [[1, 2], [1, 2], [1, 2]], [True, True, True])
        self.check("a?.b?.c", [[1, 2, 3], [2, 3], [3], []], [False, False, False, True])
        self.check("a.b?.c?", [[1], [2, 3], [3], []], [False, True, True, True])
        self.check("a.(b?.c)*", [[1], [2, 3], [3], [2, 3]], [False, True, False, True])
        self.check("a*.b*.c*", [[1, 2, 3], [1, 2, 3], [2, 3], [3]], [True, True, True, True])

    def test_all_patterns_of_some_depth(self):
        trees = small_trees() + tall_trees()
        for tree in trees:
            with self.subTest(tree):
                self.assertEqual(machine(tree), (marks_of(tree),) + told_by_lists(tree))
        self.assertGreater(len(trees), 500)


class AlikeMarks(unittest.TestCase):
    """[4.1], [4.2]: marks that are alike have each their own room."""

    def test_told_as_often_as_they_stand_there(self):
        self.assertEqual(machine(("row", A, A)), ([A, A], [[1], [2], []], [False, False, True]))
        self.assertEqual(machine(("or", A, A)), ([A, A], [[1, 2], [], []], [False, True, True]))
        self.assertEqual(machine(read_pattern("a|b.a*|a")),
                         ([A, B, A, A], [[1, 2, 4], [], [3], [3], []], [False, True, True, True, True]))

    def test_rooms_as_for_unlike_ones(self):
        for tree in small_trees() + tall_trees():
            alike = with_marks_alike(tree)
            with self.subTest(alike):
                self.assertEqual(machine(alike), ([A] * len(marks_of(tree)),) + machine(tree)[1:])


class Great(unittest.TestCase):
    """[0.7]: 24 marks, and 48 deep, and somewhat beyond."""

    def nested(self, kind, count, left):
        tree = A
        for turn in range(count - 1):
            tree = (kind, tree, A) if left else (kind, A, tree)
        return in_turn(tree)

    def test_rows_of_24(self):
        for count in (24, 30):
            for left in (True, False):
                tree = self.nested("row", count, left)
                told = machine(tree)
                self.assertEqual(told[0], marks_of(tree))
                self.assertEqual(told[1], [[room + 1] for room in range(count)] + [[]])
                self.assertEqual(told[2], [False] * count + [True])

    def test_ors_of_24(self):
        for count in (24, 30):
            rooms = list(range(1, count + 1))
            for left in (True, False):
                tree = self.nested("or", count, left)
                self.assertEqual(machine(tree), (marks_of(tree), [rooms] + [[]] * count, [False] + [True] * count))
                self.assertEqual(machine(("many", tree))[1:], ([rooms] * (count + 1), [True] * (count + 1)))

    def test_rows_of_24_that_may_be_empty(self):
        tree = ("maybe", A)
        for turn in range(23):
            tree = ("row", tree, ("maybe", A))
        follows = [list(range(room + 1, 25)) for room in range(25)]
        self.assertEqual(machine(tree), ([A] * 24, follows, [True] * 25))
        self.assertEqual(machine(("some", tree)), ([A] * 24, [list(range(1, 25))] * 25, [True] * 25))

    def test_48_deep(self):
        for deep in (48, 60):
            for kind, follows, ends in (("many", [[1], [1]], [True, True]), ("some", [[1], [1]], [False, True]),
                                        ("maybe", [[1], []], [True, True])):
                tree = A
                for turn in range(deep - 1):
                    tree = (kind, tree)
                self.assertEqual(machine(tree), ([A], follows, ends))

    def test_24_marks_and_48_deep(self):
        tree = ("many", A)
        for turn in range(23):
            tree = ("some", ("row", tree, B))
        told = machine(tree)
        self.assertEqual(told[0], [A] + [B] * 23)
        # One starts with a or, leaving it out, with the first b; each b is followed by the next one, or by a
        # beginning of one of the somes that it ends.
        self.assertEqual(told[1][:2], [[1, 2], [1, 2]])
        self.assertEqual(told[1][2:], [[1, 2, room + 1] for room in range(2, 24)] + [[1, 2]])
        self.assertEqual(told[2], [False] * 24 + [True])


class Told(unittest.TestCase):
    """[0.3]"""

    def trees(self):
        return [A] + small_trees() + [with_marks_alike(tree) for tree in tall_trees()]

    def test_kinds_of_values(self):
        for tree in self.trees():
            told = machine(tree)
            self.assertIs(told.__class__, tuple)
            self.assertEqual([part.__class__ for part in told], [list, list, list])
            count = len(marks_of(tree))
            self.assertEqual([len(part) for part in told], [count, count + 1, count + 1])
            for rooms in told[1]:
                self.assertIs(rooms.__class__, list)
                self.assertEqual(rooms, sorted(set(rooms)))
                for room in rooms:
                    self.assertIs(room.__class__, int)
                    self.assertIn(room, range(1, count + 1))
            for end in told[2]:
                self.assertIs(end.__class__, bool)

    def test_no_two_lists_are_the_same_one(self):
        for tree in self.trees():
            told = machine(tree)
            no_list_twice(self, told, machine(tree))
            self.assertEqual(len(lists_within(told)), 3 + len(told[1]))

    def test_the_lists_told_are_the_askers_own(self):
        for tree in self.trees():
            ahead = copy.deepcopy(machine(tree))
            kept = machine(tree)
            told = machine(tree)
            for one in lists_within(told):
                one.append(7)
                one.insert(0, None)
            self.assertEqual(machine(tree), ahead)
            for one in lists_within(told):
                one.clear()
            self.assertEqual(machine(tree), ahead)
            self.assertEqual(kept, ahead)

    def test_the_tree_handed_in_stays(self):
        for tree in self.trees():
            ahead = copy.deepcopy(tree)
            machine(tree)
            self.assertEqual(tree, ahead)


if __name__ == "__main__":
    unittest.main()
