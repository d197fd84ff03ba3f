"""Ways walked along the ties of a web, their steps, and ways turned about."""

from tieseek.errors import NoThing, NoTie, NoWay


def gone_step(tie, back):
    return (tie[1], tie[3], back)


def gone_from(tie, back):
    return tie[2] if back else tie[0]


def gone_to(tie, back):
    return tie[0] if back else tie[2]


def tie_on_way(web, number):
    try:
        return web.tie(number)
    except NoTie:
        raise NoWay("a tie of the way is not there") from None


def walked(web, start, way):
    if not web.has_thing(start):
        raise NoThing("the way starts at no thing of the web")
    here = start
    for number, back in way:
        tie = tie_on_way(web, number)
        if gone_from(tie, back) != here:
            raise NoWay("a tie does not go on from where one stands")
        here = gone_to(tie, back)
    return here


def steps_of(web, way):
    return [gone_step(tie_on_way(web, number), back) for number, back in way]


def turned_way(way):
    return [(number, not back) for number, back in reversed(way)]
