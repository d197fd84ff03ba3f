"""Searches through a web and a machine at once, and the ways that they find."""

from tieseek.errors import NoThing
from tieseek.machine import ENDS, FOLLOWS, MARKS, fits, machine
from tieseek.walk import gone_from, gone_step, gone_to


def moves_by(web, mark):
    # By the thing that one stands at: the ties that fit the mark, and the thing to which each leads.
    back = mark[2]
    found = {}
    for number in web.ties():
        tie = web.tie(number)
        if fits(mark, gone_step(tie, back)):
            found.setdefault(gone_from(tie, back), []).append((number, gone_to(tie, back)))
    return found


def book(web, made, start):
    if not web.has_thing(start):
        raise NoThing("the search starts at no thing of the web")
    moves = [moves_by(web, mark) for mark in made[MARKS]]
    entries = [(start, 0, 0, -1, -1)]
    seen = {(start, 0): True}
    # What is found first is looked on from first, so that no state is come to by more ties than it need be.
    place = 0
    while place < len(entries):
        entry = entries[place]
        for room in made[FOLLOWS][entry[1]]:
            for number, thing in moves[room - 1].get(entry[0], []):
                if (thing, room) not in seen:
                    seen[(thing, room)] = True
                    entries.append((thing, room, entry[2] + 1, number, place))
        place = place + 1
    return entries


def way_in(made, entries, place):
    way = []
    entry = entries[place]
    # The first entry alone has none before it.
    while entry[4] >= 0:
        mark = made[MARKS][entry[1] - 1]
        way.append((entry[3], mark[2]))
        entry = entries[entry[4]]
    way.reverse()
    return way


def ends_in(made, entries):
    found = {}
    for place, entry in enumerate(entries):
        if made[ENDS][entry[1]]:
            # Kept for the first place alone; a dict keeps the order, so the places rise.
            found.setdefault(entry[0], place)
    return list(found.items())


def reached(web, tree, start):
    made = machine(tree)
    entries = book(web, made, start)
    places = dict(ends_in(made, entries))
    return [(thing, way_in(made, entries, places[thing])) for thing in web.things() if thing in places]
