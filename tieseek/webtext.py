"""A web shown as rows, and read back from them."""

from tieseek.names import number_shown
from tieseek.rows import done_rows
from tieseek.web import Web


def thing_rows(web, name):
    rows = [" ".join(["thing", name])]
    for key, number in web.values_of(name):
        rows.append(" ".join(["set", name, key, number_shown(number)]))
    return rows


def tie_row(tie):
    return " ".join(["tie", tie[0], tie[1], tie[2], number_shown(tie[3])])


def shown_web(web):
    rows = []
    for name in web.things():
        rows.extend(thing_rows(web, name))
    for number in web.ties():
        rows.append(tie_row(web.tie(number)))
    return rows


def read_web(rows):
    return done_rows(Web(), rows)
