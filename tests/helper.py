"""What several tests need: webs and patterns made ready, and all that a web tells, in one value."""

import copy

from tieseek.machine import machine
from tieseek.pattern import read_pattern
from tieseek.web import Web

LETTERS = "abcdefghijklmnopqrstuvwxyz"
# Every sign that a text may hold [0.2].
SIGNS = [chr(code) for code in range(32, 127)] + ["\n", "\t"]
GREATEST = 10 ** 60 - 1
TOO_LONG = (10 ** 60, -(10 ** 60), 10 ** 61, 10 ** 5000, -(10 ** 5000))
# Texts that are no good names, one of each sort.
BAD_NAMES = (
    "", " ", "\n", "\t", "_", "?", "~", "A", "Ab", "aB", "a b", " a", "a ", "a\n", "\na", "a\t",
    "a1", "1", "0", "-1", "a_b", "?a", "a?", "a.b", "<a", "abcdefghijklm", "a" * 500,
)
# Texts that write no number, one of each sort.
BAD_NUMBERS = (
    "", "-", "+", "-0", "+0", "+1", "--1", "-+1", "00", "01", "-01", "1-", "1_0", "1.0", "1e3", "0x1", "a", "a1", "1a",
    "\t1", "1\t", "\n1", "1\n", "1" * 61, "-" + "1" * 61, "1" + "0" * 60, "0" * 60, "9" * 5000,
)
REPEATS = ("many", "some", "maybe")
MARK_SIGNS = ("", "<", ">", "=", "!")


def name_at(place):
    """An own good name for each place below 676."""
    return LETTERS[place // 26] + LETTERS[place % 26]


def web_with(names):
    web = Web()
    for name in names:
        web.add_thing(name)
    return web


def web_of_things(count):
    return web_with([name_at(place) for place in range(count)])


def web_of_ties(count):
    """Things a, b, c, and that many alike ties from a to b."""
    web = web_with(["a", "b", "c"])
    for place in range(count):
        web.add_tie("a", "on", "b", place)
    return web


def small_web():
    """Things, values, a tie of a thing to itself, and a gap in the ties' numbers (1)."""
    web = web_with(["sun", "ash", "elm"])
    web.set_value("sun", "heat", 9)
    web.set_value("sun", "age", -4)
    web.set_value("elm", "age", 7)
    web.add_tie("sun", "warms", "ash", 3)
    web.add_tie("ash", "near", "elm")
    web.add_tie("elm", "near", "elm", -2)
    web.add_tie("sun", "warms", "elm", 3)
    web.cut_tie(1)
    return web


def shown(web):
    """All that a web tells, but for the number that comes next."""
    things = web.things()
    numbers = web.ties()
    told = [web.tie(number) for number in numbers]
    return (
        tuple(things),
        tuple([tuple(web.values_of(name)) for name in things]),
        tuple(numbers),
        tuple(told),
        tuple([tuple(web.out_of(name)) for name in things]),
        tuple([tuple(web.into(name)) for name in things]),
        tuple([(tie[1], tuple(web.named(tie[1]))) for tie in told]),
    )


def next_number(web):
    """The number that the web's next tie will have, found on a twin that is emptied for it."""
    twin = web.twin()
    for number in twin.ties():
        twin.cut_tie(number)
    for name in twin.things():
        twin.drop_thing(name)
    twin.add_thing("a")
    return twin.add_tie("a", "a", "a")


def refused(case, error, call, *given):
    """Asks that the call is refused with just this class."""
    with case.assertRaises(error) as caught:
        call(*given)
    case.assertIs(caught.exception.__class__, error)


def refused_unchanged(case, web, error, call, *given):
    """Asks, too, that the refusal leaves the web as it was, the number that comes next too."""
    ahead = (shown(web), next_number(web))
    refused(case, error, call, *given)
    case.assertEqual((shown(web), next_number(web)), ahead)


def mark(name, back=False, sign="", number=0):
    return ("mark", name, back, sign, number)


def in_turn(tree):
    """The same tree with unlike marks, from left to right: aa, <ab[<1], ac[>2] and so on."""
    made = []

    def walk(part):
        if part[0] != "mark":
            return (part[0],) + tuple([walk(inner) for inner in part[1:]])
        place = len(made)
        sign = MARK_SIGNS[place % 5]
        made.append(mark(name_at(place), place % 2 == 1, sign, place if sign else 0))
        return made[-1]

    return walk(tree)


def grown(lefts, rights):
    """A mark, each kind of pattern round each of the lefts, and each pair of the two in a row and in an or."""
    trees = [mark("a")]
    for left in lefts:
        trees.extend([(kind, left) for kind in REPEATS])
        trees.extend([(kind, left, right) for kind in ("row", "or") for right in rights])
    return trees


def small_trees():
    """All patterns of at most 3 deep, with unlike marks."""
    low = grown([mark("a")], [mark("a")])
    return [in_turn(tree) for tree in grown(low, low)]


def tall_trees():
    """Patterns of at most 4 deep, with unlike marks: all kinds in all kinds in all kinds, left and right."""
    alone = [mark("a")]
    low = grown(grown(alone, alone), grown(alone, alone))
    return [in_turn(tree) for tree in grown(low, alone) + grown(alone, low)]


def named_anew(tree, names):
    """The same tree with the names in turn for its marks, every second one gone backwards, without conditions."""
    made = []

    def walk(part):
        if part[0] != "mark":
            return (part[0],) + tuple([walk(inner) for inner in part[1:]])
        made.append(mark(names[len(made) % len(names)], len(made) % 2 == 1))
        return made[-1]

    return walk(tree)


def step_fits(one, step):
    """[0.8]"""
    met = {
        "": True, "<": step[1] < one[4], ">": step[1] > one[4], "=": step[1] == one[4], "!": step[1] != one[4],
    }[one[3]]
    return step[2] == one[2] and one[1] in ("_", step[0]) and met


def places_behind(tree, steps, start):
    """[0.8]: the places at which a part of the steps that fits the tree and begins at start may end."""
    if tree[0] == "mark":
        return {start + 1} if start < len(steps) and step_fits(tree, steps[start]) else set()
    if tree[0] == "or":
        return places_behind(tree[1], steps, start) | places_behind(tree[2], steps, start)
    if tree[0] == "row":
        return {end for middle in places_behind(tree[1], steps, start) for end in places_behind(tree[2], steps, middle)}
    if tree[0] == "maybe":
        return {start} | places_behind(tree[1], steps, start)
    found = places_behind(tree[1], steps, start)
    while True:
        more = found | {end for middle in found for end in places_behind(tree[1], steps, middle)}
        if more == found:
            return found | {start} if tree[0] == "many" else found
        found = more


def fit(tree, steps):
    return len(steps) in places_behind(tree, steps, 0)


def lists_within(told):
    """All lists in what is told, however deep they stand."""
    if not isinstance(told, (list, tuple)):
        return []
    return ([told] if isinstance(told, list) else []) + [one for part in told for one in lists_within(part)]


def no_list_twice(case, *told):
    """Asks that no two lists in all that is told here are the same one [0.3]."""
    found = lists_within(list(told))
    case.assertEqual(len({id(one) for one in found}), len(found))


def web_tied(names, ties):
    """A web of these things, each a letter, with ties told as (start, name, end, weight)."""
    web = web_with(names)
    for tie in ties:
        web.add_tie(*tie)
    return web


def search_webs():
    """Webs without ties, with ties from a thing to itself, with ties alike in all but the number, with rings."""
    gap = web_tied("abc", [("a", "x", "b", 1), ("a", "x", "b", 2), ("b", "y", "c", 2), ("c", "x", "c", 1)])
    gap.cut_tie(0)
    return [
        web_tied("ab", []),
        web_tied("ab", [("a", "x", "a", 1), ("a", "y", "a", 2), ("b", "x", "b", 0)]),
        web_tied("ab", [("a", "x", "b", 1), ("a", "x", "b", 1), ("b", "y", "a", 1), ("a", "x", "b", 1)]),
        web_tied("abc", [("a", "x", "b", 1), ("b", "x", "c", 2), ("c", "x", "a", 3)]),
        web_tied("cab", [("a", "x", "b", 2), ("b", "x", "a", 1), ("b", "y", "c", 2), ("c", "y", "c", -1)]),
        web_tied("dcba", [("a", "x", "b", 1), ("a", "y", "c", 1), ("b", "x", "d", 1), ("c", "y", "d", 2)]),
        gap,
    ]


# Patterns of each kind over the ties of these webs, backwards and with conditions too.
SEARCH_TEXTS = (
    "x", "<x", "_", "<_", "z", "x.x", "x.y", "x.<x", "x|y", "x|<y", "x*", "x+", "x?", "<x*", "_*", "_+", "(_|<_)*",
    "(x.y)*", "(x.<y)+", "(x|<x).y?", "x*.y", "x?.y?", "(x?.y?)*", "x.x.x.x", "x*.x*", "(x|x.x)+", "x[>1]*", "x[=1].x",
    "<x[<2]+", "_[!1]*", "x[!0].<_[=1]", "y[>0]?.x[<3]+", "(x.x.x)+", "<y.(x|<x)*",
)


def search_trees():
    return [read_pattern(text) for text in SEARCH_TEXTS]


def gone_on(web, here):
    """All ways of one tie from a thing, each as (number, back, thing): forwards, then backwards [5.1]."""
    ties = [(number, web.tie(number)) for number in web.ties()]
    return ([(number, False, tie[2]) for number, tie in ties if tie[0] == here]
            + [(number, True, tie[0]) for number, tie in ties if tie[2] == here])


def all_ways(web, start, most):
    """All ways of at most so many ties from a thing, each with the thing to which it leads, shorter ones first."""
    found = [([], start)]
    for way, here in found:
        if len(way) < most:
            found.extend([(way + [(number, back)], thing) for number, back, thing in gone_on(web, here)])
    return found


def way_steps(web, way):
    """[0.6]"""
    return [(web.tie(number)[1], web.tie(number)[3], back) for number, back in way]


def led_to(web, start, way):
    """[5.1]: the thing to which a way leads, or None where it does not go on."""
    here = start
    for pair in way:
        coming = [thing for number, back, thing in gone_on(web, here) if (number, back) == pair]
        if not coming:
            return None
        here = coming[0]
    return here


def states_from(web, made, start):
    """[5.2]: the states that can be come to, each with the fewest ties."""
    found = {(start, 0): 0}
    newest = [(start, 0)]
    while newest:
        coming = [state for here in newest for number, state in states_on(web, made, here) if state not in found]
        far = found[newest[0]] + 1
        newest = sorted(set(coming))
        found.update([(state, far) for state in newest])
    return found


def states_on(web, made, state):
    """[5.2]: the states to which one comes from a state by one tie, each with the tie's number."""
    return [(number, (thing, room)) for number, back, thing in gone_on(web, state[0]) for room in made[1][state[1]]
            if step_fits(made[0][room - 1], way_steps(web, [(number, back)])[0])]


# Machines that no pattern gives, over the ties of search_webs.
ODD_SEARCHES = (
    ([], [[]], [True]),
    ([], [[]], [False]),
    # Nothing follows the start.
    ([mark("x"), mark("_")], [[], [1, 2], [1]], [False, True, True]),
    # No end.
    ([mark("x"), mark("_", True)], [[1, 2], [1, 2], [1]], [False, False, False]),
    # The only end can't be come to.
    ([mark("x"), mark("y"), mark("x")], [[1], [1, 2], [1], [1, 2, 3]], [False, False, False, True]),
    # Several rooms at once, of which some are ends and some lead on.
    ([mark("x"), mark("x"), mark("_"), mark("_", True, ">", 1)], [[1, 2, 3], [], [4], [2, 3], [1, 4]],
     [False, True, False, False, True]),
)


def search_machines():
    return [machine(tree) for tree in search_trees()] + [copy.deepcopy(made) for made in ODD_SEARCHES]


def full_web():
    """100 things and 400 ties: a ring, and ties that leap 7, back 3 and stay."""
    web = web_of_things(100)
    for place in range(100):
        for name, far, weight in (("x", 1, place), ("y", 7, -place), ("x", -3, 2), ("y", 0, 1)):
            web.add_tie(name_at(place), name, name_at((place + far) % 100), weight)
    return web


def long_search():
    """A ring of 97 things and a machine whose 24 rooms follow one another in a ring, the last one an end."""
    web = web_of_things(97)
    for place in range(97):
        web.add_tie(name_at(place), "x", name_at((place + 1) % 97))
    made = ([mark("x")] * 24, [[1]] + [[room % 24 + 1] for room in range(1, 25)], [False] * 24 + [True])
    return (web, made)
