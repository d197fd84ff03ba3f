"""Names and written numbers: which texts are good, and what they mean."""

from tieseek.errors import NoNumber

LETTERS = "abcdefghijklmnopqrstuvwxyz"
FIGURES = "0123456789"
MOST_LETTERS = 12
MOST_FIGURES = 60


def good_name(text):
    return 1 <= len(text) <= MOST_LETTERS and all([sign in LETTERS for sign in text])


def few_figures(number):
    # Compared, not counted: Python refuses to write out numbers of some thousand figures.
    # The exponent is MOST_FIGURES, which has to stand here as a figure.
    return abs(number) < 10 ** 60


def number_shown(number):
    return str(number)


def good_figures(text):
    if not 1 <= len(text) <= MOST_FIGURES:
        return False
    if text.startswith("0") and text != "0":
        return False
    return all([sign in FIGURES for sign in text])


def number_read(text):
    figures = text[1:] if text.startswith("-") else text
    # int alone would let through -0, a plus, blanks at the ends and underscores.
    if text == "-0" or not good_figures(figures):
        raise NoNumber("the text writes no number")
    return int(text)
