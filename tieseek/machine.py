"""Machines: a pattern made into rooms, and lists of steps led through them."""

from tieseek.pattern import marks_of
from tieseek.pieces import ANY_NAME

# The places of a machine's three lists.
MARKS = 0
FOLLOWS = 1
ENDS = 2


class Builder:
    def __init__(self):
        # For each room those that follow it, as keys: a many within a some finds the same ones twice.
        self.followers = [{}]

    def link(self, lasts, firsts):
        for room in lasts:
            for other in firsts:
                self.followers[room][other] = True

    # What a part tells of itself: whether the empty list fits it, and the rooms of the marks
    # with which a list that fits may begin, and end.

    def part(self, tree):
        if tree[0] == "mark":
            return self.mark_part()
        if tree[0] == "or":
            return self.or_part(tree[1], tree[2])
        if tree[0] == "row":
            return self.row_part(tree[1], tree[2])
        return self.repeat_part(tree[0], tree[1])

    def mark_part(self):
        # The walk comes to the marks from left to right, so the next room is this mark's.
        room = len(self.followers)
        self.followers.append({})
        return (False, [room], [room])

    def or_part(self, left_tree, right_tree):
        left = self.part(left_tree)
        right = self.part(right_tree)
        return (left[0] or right[0], left[1] + right[1], left[2] + right[2])

    def row_part(self, left_tree, right_tree):
        left = self.part(left_tree)
        right = self.part(right_tree)
        self.link(left[2], right[1])
        firsts = left[1] + right[1] if left[0] else left[1]
        lasts = left[2] + right[2] if right[0] else right[2]
        return (left[0] and right[0], firsts, lasts)

    def repeat_part(self, kind, inner_tree):
        inner = self.part(inner_tree)
        if kind != "maybe":
            self.link(inner[2], inner[1])
        return (inner[0] or kind != "some", inner[1], inner[2])


def machine(tree):
    builder = Builder()
    whole = builder.part(tree)
    builder.link([0], whole[1])
    follows = [sorted(rooms) for rooms in builder.followers]
    ends = [whole[0]] + [room in whole[2] for room in range(1, len(follows))]
    return (marks_of(tree), follows, ends)


def weight_meets(weight, sign, number):
    if sign == "<":
        return weight < number
    if sign == ">":
        return weight > number
    if sign == "=":
        return weight == number
    if sign == "!":
        return weight != number
    return True


def fits(mark, step):
    if step[2] != mark[2]:
        return False
    if mark[1] != ANY_NAME and mark[1] != step[0]:
        return False
    return weight_meets(step[1], mark[3], mark[4])


def rooms_on(made, rooms, step):
    # Each mark is asked once, since many rooms may be followed by the same one.
    fitting = [fits(mark, step) for mark in made[MARKS]]
    found = {}
    for room in rooms:
        for other in made[FOLLOWS][room]:
            if fitting[other - 1]:
                found[other] = room
    return found


def trails(made, steps):
    # Ahead of the first step and behind each one: the rooms where one may be, each with one that led there.
    found = [{0: 0}]
    for step in steps:
        found.append(rooms_on(made, found[-1], step))
    return found


def rooms_behind(made, steps):
    return sorted(trails(made, steps)[-1])


def taken(made, steps):
    return any([made[ENDS][room] for room in rooms_behind(made, steps)])


def run_of(made, steps):
    layers = trails(made, steps)
    ends = [room for room in layers[-1] if made[ENDS][room]]
    if not ends:
        return None
    room = ends[0]
    run = []
    for layer in reversed(layers[1:]):
        run.append(room)
        room = layer[room]
    run.reverse()
    return run
