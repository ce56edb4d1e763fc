"""Points 2 to 4: stocks and readings as texts, and stocks read from texts."""

import unittest

from brute import EIGHT_POWERS, PlainCase, small_rows, some_rows
from wordhulls import readtexts, texts
from wordhulls.errors import InvalidReading, Unreadable
from wordhulls.readtexts import read_stock
from wordhulls.stocks import Stock
from wordhulls.texts import show_reading, show_stock

HUGE = 10 ** 400
SAMPLE = list(small_rows(2, 2)) + some_rows(121, 200, 8, 8, "abcxyz") + [EIGHT_POWERS, list("zyxwvuts")]


class ShowStockTest(PlainCase):
    def test_words_with_single_spaces(self):
        for words in SAMPLE:
            self.assertEqual(show_stock(Stock(words)), " ".join(words))
        self.assertEqual(show_stock(Stock(["a", "ab", "ba"])), "a ab ba")
        self.assertEqual(show_stock(Stock(["ba", "a"])), "ba a")
        self.assertEqual(show_stock(Stock(["abcdefgh"])), "abcdefgh")


class ShowReadingTest(PlainCase):
    def test_words_with_points(self):
        stock = Stock(["a", "ab", "ba"])
        for reading, wanted in (
            ([1, 0], "ab.a"), ([], "-"), ([0], "a"), ([2], "ba"), ([0, 0, 0], "a.a.a"), ([2, 1, 0], "ba.ab.a"),
        ):
            self.assertEqual(show_reading(stock, reading), wanted)
        self.assertEqual(show_reading(Stock(["abcdefgh"]), []), "-")
        self.assertEqual(show_reading(Stock(["abcdefgh"]), [0] * 400), ".".join(["abcdefgh"] * 400))

    def test_reading_check(self):
        for words in (["a"], ["a", "ab", "ba"], EIGHT_POWERS):
            stock, many = Stock(words), len(words)
            for number in (-1, many, many + 1, -many, HUGE, -HUGE):
                self.check_error(InvalidReading, number, show_reading, stock, [number])
                self.check_error(InvalidReading, number, show_reading, stock, [0, number, many + 7, -9])
                self.check_error(InvalidReading, number, show_reading, stock, [0] * 399 + [number])

    def test_readings_stay(self):
        stock, reading = Stock(["a", "ab", "ba"]), [1, 0, 2]
        self.assertEqual(show_reading(stock, reading), "ab.a.ba")
        self.assertEqual(reading, [1, 0, 2])
        reading.append(1)
        self.assertEqual(show_reading(stock, reading), "ab.a.ba.ab")
        self.assertEqual(stock.words, ["a", "ab", "ba"])


class ReadStockTest(PlainCase):
    def test_each_shown_stock(self):
        for words in SAMPLE:
            told = read_stock(show_stock(Stock(words)))
            self.assertIs(type(told), Stock)
            self.assertEqual(told, Stock(words))
            self.assertEqual(told.words, words)

    def test_every_other_text(self):
        nine = " ".join(["a" * length for length in range(1, 9)] + ["b"])
        for text in (
            "", " ", "  ", "a  b", "a b ", " a b", " a", "a ", "a a", "ab ba ab", "b a b", nine, nine + " c",
            "abcdefghi", "a abcdefghi b", "A", "a B", "a1", "a.b", "a,b", "a, b", "-", "~", "a-b", "1 2", "a'", '"a"', "['a']",
            "a b c d e f g h i", "z" * 1000, "a " * 500, " " * 1000, "a" + " " * 998 + "b", "~" * 1000, "`", "{", "a_b",
        ):
            self.check_error(Unreadable, text, read_stock, text)

    def test_each_sign(self):
        for sign in [chr(number) for number in range(32, 127)]:
            if sign.islower():
                self.assertEqual(read_stock(sign).words, [sign])
                self.assertEqual(read_stock("zz " + sign + "q").words, ["zz", sign + "q"])
            else:
                for text in (sign, "a" + sign, sign + "a", "b a" + sign):
                    self.check_error(Unreadable, text, read_stock, text)
                if sign != " ":
                    self.check_error(Unreadable, "a" + sign + "b", read_stock, "a" + sign + "b")

    def test_most_words_and_letters(self):
        words = ["abcdefg" + sign for sign in "abcdefgh"]
        self.assertEqual(read_stock(" ".join(words)).words, words)
        for text in (" ".join(words + ["z"]), " ".join(words[:7] + ["abcdefghi"])):
            self.check_error(Unreadable, text, read_stock, text)


class CallTest(PlainCase):
    def test_by_name(self):
        stock = Stock(["a", "ab", "ba"])
        self.assertEqual(show_stock(stock=stock), "a ab ba")
        self.assertEqual(show_reading(reading=[1, 0], stock=stock), "ab.a")
        self.assertEqual(read_stock(text="a ab ba"), stock)
        self.check_error(InvalidReading, 3, show_reading, reading=[3], stock=stock)
        self.check_error(Unreadable, "a  b", read_stock, text="a  b")

    def test_all_are_defined_in_the_file_that_lists_them(self):
        for name in ("show_stock", "show_reading"):
            self.assertEqual(getattr(texts, name).__module__, "wordhulls.texts", name)
        self.assertEqual(readtexts.read_stock.__module__, "wordhulls.readtexts")


if __name__ == "__main__":
    unittest.main()
