"""Patterns: read from a text, shown as one, turned about, and their marks."""

from tieseek.errors import NoPattern, TooGreat
from tieseek.names import number_shown
from tieseek.pieces import pieces

MOST_PIECES = 48
REPEATS = {"*": "many", "+": "some", "?": "maybe"}
REPEAT_SIGNS = {"many": "*", "some": "+", "maybe": "?"}

# How tightly a pattern's text holds together; one that stands where a tighter one is asked for gets brackets.
OR_LEVEL = 0
ROW_LEVEL = 1
REPEAT_LEVEL = 2


class Reader:
    def __init__(self, parts):
        self.parts = parts
        self.place = 0

    def coming(self):
        # The empty text is no piece, so it can stand for the end.
        return self.parts[self.place] if self.place < len(self.parts) else ""

    def took(self, sign):
        if self.coming() != sign:
            return False
        self.place = self.place + 1
        return True

    def read_or(self):
        tree = self.read_row()
        while self.took("|"):
            tree = ("or", tree, self.read_row())
        return tree

    def read_row(self):
        tree = self.read_repeated()
        while self.took("."):
            tree = ("row", tree, self.read_repeated())
        return tree

    def read_repeated(self):
        tree = self.read_single()
        while self.coming() in REPEATS:
            tree = (REPEATS[self.coming()], tree)
            self.place = self.place + 1
        return tree

    def read_single(self):
        if self.took("("):
            tree = self.read_or()
            if not self.took(")"):
                raise NoPattern("a bracket is not shut")
            return tree
        mark = self.coming()
        if not isinstance(mark, tuple):
            raise NoPattern("a mark or a bracket is missing")
        self.place = self.place + 1
        return mark


def read_pattern(text):
    parts = pieces(text)
    if len(parts) > MOST_PIECES:
        raise TooGreat("the pattern's text has more than 48 pieces")
    reader = Reader(parts)
    tree = reader.read_or()
    if reader.coming() != "":
        raise NoPattern("the text goes on behind the pattern")
    return tree


def shown_mark(mark):
    text = "<" + mark[1] if mark[2] else mark[1]
    if mark[3] == "":
        return text
    return text + "[" + mark[3] + number_shown(mark[4]) + "]"


def bracketed(text, level, asked):
    return "(" + text + ")" if level < asked else text


def shown_within(tree, asked):
    if tree[0] == "mark":
        return shown_mark(tree)
    if tree[0] == "or":
        # The right one is asked for a level more: the left two go together without brackets.
        text = shown_within(tree[1], OR_LEVEL) + "|" + shown_within(tree[2], ROW_LEVEL)
        return bracketed(text, OR_LEVEL, asked)
    if tree[0] == "row":
        text = shown_within(tree[1], ROW_LEVEL) + "." + shown_within(tree[2], REPEAT_LEVEL)
        return bracketed(text, ROW_LEVEL, asked)
    return shown_within(tree[1], REPEAT_LEVEL) + REPEAT_SIGNS[tree[0]]


def shown_pattern(tree):
    return shown_within(tree, OR_LEVEL)


def turned(tree):
    if tree[0] == "mark":
        return (tree[0], tree[1], not tree[2], tree[3], tree[4])
    parts = [turned(part) for part in tree[1:]]
    if tree[0] == "row":
        parts.reverse()
    return tuple([tree[0]] + parts)


def marks_of(tree):
    if tree[0] == "mark":
        return [tree]
    found = []
    for part in tree[1:]:
        found.extend(marks_of(part))
    return found
