"""What several tests need: webs and patterns made ready, and all that a web tells, in one value."""

from tieseek.web import Web

LETTERS = "abcdefghijklmnopqrstuvwxyz"
# Every sign that a text may hold [0.2].
SIGNS = [chr(code) for code in range(32, 127)] + ["\n", "\t"]
GREATEST = 10 ** 60 - 1
TOO_LONG = (10 ** 60, -(10 ** 60), 10 ** 61, 10 ** 5000, -(10 ** 5000))
# Texts that are no good names, one of each sort.
BAD_NAMES = (
    "", " ", "\n", "\t", "_", "?", "~", "A", "Ab", "aB", "a b", " a", "a ", "a\n", "\na", "a\t",
    "a1", "1", "0", "-1", "a_b", "?a", "a?", "a.b", "<a", "abcdefghijklm", "a" * 500,
)
# Texts that write no number, one of each sort.
BAD_NUMBERS = (
    "", "-", "+", "-0", "+0", "+1", "--1", "-+1", "00", "01", "-01", "1-", "1_0", "1.0", "1e3", "0x1", "a", "a1", "1a",
    "\t1", "1\t", "\n1", "1\n", "1" * 61, "-" + "1" * 61, "1" + "0" * 60, "0" * 60, "9" * 5000,
)
REPEATS = ("many", "some", "maybe")
MARK_SIGNS = ("", "<", ">", "=", "!")


def name_at(place):
    """An own good name for each place below 676."""
    return LETTERS[place // 26] + LETTERS[place % 26]


def web_with(names):
    web = Web()
    for name in names:
        web.add_thing(name)
    return web


def web_of_things(count):
    return web_with([name_at(place) for place in range(count)])


def web_of_ties(count):
    """Things a, b, c, and that many alike ties from a to b."""
    web = web_with(["a", "b", "c"])
    for place in range(count):
        web.add_tie("a", "on", "b", place)
    return web


def small_web():
    """Things, values, a tie of a thing to itself, and a gap in the ties' numbers (1)."""
    web = web_with(["sun", "ash", "elm"])
    web.set_value("sun", "heat", 9)
    web.set_value("sun", "age", -4)
    web.set_value("elm", "age", 7)
    web.add_tie("sun", "warms", "ash", 3)
    web.add_tie("ash", "near", "elm")
    web.add_tie("elm", "near", "elm", -2)
    web.add_tie("sun", "warms", "elm", 3)
    web.cut_tie(1)
    return web


def shown(web):
    """All that a web tells, but for the number that comes next."""
    things = web.things()
    numbers = web.ties()
    told = [web.tie(number) for number in numbers]
    return (
        tuple(things),
        tuple([tuple(web.values_of(name)) for name in things]),
        tuple(numbers),
        tuple(told),
        tuple([tuple(web.out_of(name)) for name in things]),
        tuple([tuple(web.into(name)) for name in things]),
        tuple([(tie[1], tuple(web.named(tie[1]))) for tie in told]),
    )


def next_number(web):
    """The number that the web's next tie will have, found on a twin that is emptied for it."""
    twin = web.twin()
    for number in twin.ties():
        twin.cut_tie(number)
    for name in twin.things():
        twin.drop_thing(name)
    twin.add_thing("a")
    return twin.add_tie("a", "a", "a")


def refused(case, error, call, *given):
    """Asks that the call is refused with just this class."""
    with case.assertRaises(error) as caught:
        call(*given)
    case.assertIs(caught.exception.__class__, error)


def refused_unchanged(case, web, error, call, *given):
    """Asks, too, that the refusal leaves the web as it was, the number that comes next too."""
    ahead = (shown(web), next_number(web))
    refused(case, error, call, *given)
    case.assertEqual((shown(web), next_number(web)), ahead)


def mark(name, back=False, sign="", number=0):
    return ("mark", name, back, sign, number)


def in_turn(tree):
    """The same tree with unlike marks, from left to right: aa, <ab[<1], ac[>2] and so on."""
    made = []

    def walk(part):
        if part[0] != "mark":
            return (part[0],) + tuple([walk(inner) for inner in part[1:]])
        place = len(made)
        sign = MARK_SIGNS[place % 5]
        made.append(mark(name_at(place), place % 2 == 1, sign, place if sign else 0))
        return made[-1]

    return walk(tree)


def grown(lefts, rights):
    """A mark, each kind of pattern round each of the lefts, and each pair of the two in a row and in an or."""
    trees = [mark("a")]
    for left in lefts:
        trees.extend([(kind, left) for kind in REPEATS])
        trees.extend([(kind, left, right) for kind in ("row", "or") for right in rights])
    return trees


def small_trees():
    """All patterns of at most 3 deep, with unlike marks."""
    low = grown([mark("a")], [mark("a")])
    return [in_turn(tree) for tree in grown(low, low)]


def tall_trees():
    """Patterns of at most 4 deep, with unlike marks: all kinds in all kinds in all kinds, left and right."""
    alone = [mark("a")]
    low = grown(grown(alone, alone), grown(alone, alone))
    return [in_turn(tree) for tree in grown(low, alone) + grown(alone, low)]
