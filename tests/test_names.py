import unittest

from tieseek.errors import NoNumber
from tieseek.names import good_name, number_read, number_shown

from helper import BAD_NAMES, BAD_NUMBERS, LETTERS, SIGNS, refused

OTHER_SIGNS = [sign for sign in SIGNS if sign not in LETTERS]
FIGURES = "0123456789"


class GoodNames(unittest.TestCase):
    """[1.1], [0.2]"""

    def test_lengths(self):
        for count, good in ((0, False), (1, True), (2, True), (11, True), (12, True), (13, False), (100, False)):
            with self.subTest(count):
                self.assertIs(good_name("k" * count), good)

    def test_each_letter(self):
        for letter in LETTERS:
            with self.subTest(letter):
                self.assertIs(good_name(letter), True)
                self.assertIs(good_name(letter * 12), True)
        self.assertIs(good_name("abcdefghijkl"), True)
        self.assertIs(good_name("mnopqrstuvwx"), True)

    def test_another_sign_alone(self):
        for sign in OTHER_SIGNS:
            with self.subTest(sign):
                self.assertIs(good_name(sign), False)

    def test_another_sign_at_each_place(self):
        for length in (2, 5, 12):
            for place in range(length):
                for sign in OTHER_SIGNS:
                    text = "a" * place + sign + "a" * (length - place - 1)
                    with self.subTest(text):
                        self.assertIs(good_name(text), False)

    def test_line_feed_behind_a_good_name(self):
        self.assertIs(good_name("abc\n"), False)
        self.assertIs(good_name("abcdefghijkl\n"), False)

    def test_bad_names(self):
        for text in BAD_NAMES:
            with self.subTest(text):
                self.assertIs(good_name(text), False)


class WrittenNumbers(unittest.TestCase):
    """[0.2], [1.2]"""

    PAIRS = (
        (0, "0"), (1, "1"), (-1, "-1"), (9, "9"), (-9, "-9"), (10, "10"), (-10, "-10"), (100, "100"),
        (120034, "120034"), (-120034, "-120034"),
        (10 ** 58, "1" + "0" * 58), (-(10 ** 58), "-1" + "0" * 58),
        (10 ** 59 - 1, "9" * 59), (-(10 ** 59) + 1, "-" + "9" * 59),
        (10 ** 59, "1" + "0" * 59), (-(10 ** 59), "-1" + "0" * 59),
        (10 ** 60 - 1, "9" * 60), (-(10 ** 60) + 1, "-" + "9" * 60),
    )

    def check_refused(self, text):
        with self.subTest(text):
            refused(self, NoNumber, number_read, text)

    def test_written(self):
        for number, text in self.PAIRS:
            with self.subTest(text):
                self.assertEqual(number_shown(number), text)

    def test_read(self):
        for number, text in self.PAIRS:
            with self.subTest(text):
                told = number_read(text)
                self.assertEqual(told, number)
                self.assertIs(told.__class__, int)

    def test_there_and_back(self):
        for number in range(-1100, 1101):
            self.assertEqual(number_read(number_shown(number)), number)

    def test_empty_and_signs_alone(self):
        for text in ("", "-", "--", "+", " ", "\n", "\t", "_", "?", "a"):
            self.check_refused(text)

    def test_nought_below_nought(self):
        for text in ("-0", "-00", "+0", "--0"):
            self.check_refused(text)

    def test_signs_ahead(self):
        for text in ("+1", "--1", "+-1", "-+1", "++1", "---1", "-+0"):
            self.check_refused(text)

    def test_nought_ahead(self):
        for text in ("00", "01", "-01", "007", "000", "-007", "0" * 60, "0" + "1" * 59, "-0" + "1" * 59):
            self.check_refused(text)

    def test_another_sign_at_each_place(self):
        for good in ("7", "12", "-12", "305", "-1", "1" * 59):
            for place in range(len(good) + 1):
                for sign in SIGNS:
                    if sign not in FIGURES and not (sign == "-" and place == 0 and good[0] != "-"):
                        self.check_refused(good[:place] + sign + good[place:])

    def test_another_sign_in_the_place_of_a_figure(self):
        for good in ("12", "-12", "305", "9" * 60):
            for place in range(len(good)):
                for sign in SIGNS:
                    if sign not in "-" + FIGURES:
                        self.check_refused(good[:place] + sign + good[place + 1:])

    def test_what_int_would_take(self):
        for text in ("1_0", " 1", "1 ", "1\n", "\n1", "\t1", "1\t", "- 1", "-1\n", "1_000", "-1_0"):
            self.check_refused(text)

    def test_other_ways_of_writing(self):
        for text in ("1.0", "1e3", "0x1", "0b1", "ten", "1,0", "1/1", "1-", "1-1"):
            self.check_refused(text)

    def test_bad_numbers(self):
        for text in BAD_NUMBERS:
            self.check_refused(text)

    def test_too_many_figures(self):
        for count in (61, 62, 100, 4300, 4301, 6000):
            for figure in ("1", "9"):
                self.check_refused(figure * count)
                self.check_refused("-" + figure * count)
        self.check_refused("1" + "0" * 60)
        self.check_refused("-1" + "0" * 60)
        self.check_refused("0" * 61)


if __name__ == "__main__":
    unittest.main()
