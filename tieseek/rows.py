"""Rows: a text's lines, and the deeds on a web that they write."""

from tieseek.errors import NoNumber, NoRow
from tieseek.names import number_read

# How many words each deed's row has, the first one counted too.
LENGTHS = {"thing": 2, "drop": 2, "set": 4, "take": 3, "tie": 5, "cut": 2}
# Those whose last word is a number.
NUMBERED = ("set", "tie", "cut")


def rows_of(text):
    # split alone would tell one empty row for the empty text.
    if text == "":
        return []
    return text.split("\n")


def text_of(rows):
    return "\n".join(rows)


def number_in_row(word):
    try:
        return number_read(word)
    except NoNumber:
        raise NoRow("the row has no written number where one is to stand") from None


def do_deed(web, words, number):
    deed = words[0]
    if deed == "tie":
        return web.add_tie(words[1], words[2], words[3], number)
    if deed == "thing":
        web.add_thing(words[1])
    elif deed == "drop":
        web.drop_thing(words[1])
    elif deed == "set":
        web.set_value(words[1], words[2], number)
    elif deed == "take":
        web.take_value(words[1], words[2])
    else:
        web.cut_tie(number)
    return None


def done_row(web, row):
    # At each blank, not at each run of blanks: an empty word is a word.
    words = row.split(" ")
    if LENGTHS.get(words[0]) != len(words):
        raise NoRow("the row has none of the forms that write a deed")
    # Read ahead of the deed, since NoRow goes ahead of all that the web refuses.
    number = number_in_row(words[-1]) if words[0] in NUMBERED else 0
    return do_deed(web, words, number)


def done_rows(web, rows):
    changed = web.twin()
    for row in rows:
        done_row(changed, row)
    return changed
