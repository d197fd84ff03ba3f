"""A pattern's text cut into pieces: signs, and marks."""

from tieseek.errors import NoNumber, NoPiece
from tieseek.names import LETTERS, good_name, number_read

# Tuples, since the empty text is in every text.
SINGLE_SIGNS = (".", "|", "*", "+", "?", "(", ")")
CONDITION_SIGNS = ("<", ">", "=", "!")
# The name of a mark that any tie's name fits.
ANY_NAME = "_"


def name_end(text, place):
    if text.startswith(ANY_NAME, place):
        return place + 1
    end = place
    while end < len(text) and text[end] in LETTERS:
        end = end + 1
    return end


def condition_end(text, place):
    if not text.startswith("[", place):
        return place
    shut = text.find("]", place)
    if shut < 0:
        raise NoPiece("a condition is not shut")
    return shut + 1


def piece_end(text, place):
    if text[place] in SINGLE_SIGNS:
        return place + 1
    start = place + 1 if text[place] == "<" else place
    return condition_end(text, name_end(text, start))


def condition_number(text):
    try:
        return number_read(text)
    except NoNumber:
        raise NoPiece("a condition has no written number") from None


def mark_read(text):
    back = text.startswith("<")
    halves = (text[1:] if back else text).partition("[")
    name = halves[0]
    if name != ANY_NAME and not good_name(name):
        raise NoPiece("neither a sign nor a mark begins here")
    if halves[1] == "":
        return ("mark", name, back, "", 0)
    sign = halves[2][:1]
    if sign not in CONDITION_SIGNS:
        raise NoPiece("a condition begins with none of its signs")
    return ("mark", name, back, sign, condition_number(halves[2][1:-1]))


def pieces(text):
    found = []
    place = 0
    while place < len(text):
        end = piece_end(text, place)
        part = text[place:end]
        # Where nothing begins the part is empty: it is refused as a mark, so the walk cannot stand still.
        found.append(part if part in SINGLE_SIGNS else mark_read(part))
        place = end
    return found
