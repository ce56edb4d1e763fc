"""Points 2 to 6: the texts of a length of a stock that is read in one way."""

import unittest

from brute import EIGHT_POWERS, PlainCase, all_texts, one_way, small_rows, some_rows
from hard import HARD
from wordhulls import counts
from wordhulls.counts import count_texts, nth_text, text_index
from wordhulls.errors import InvalidNumber, InvalidText, NotOneWay
from wordhulls.oneway import two_readings
from wordhulls.stocks import Stock

HUGE = 10 ** 400
LONG = 400
SAMPLE = [
    words
    for words in some_rows(41, 150, 8, 8) + some_rows(42, 60, 8, 8, "abc") + some_rows(43, 100, 5, 4) + HARD
    if one_way(tuple(words))
]
# Strings with other signs than letters.
OTHER_TEXTS = [
    "A", "aA", " ", "a ", " a", "a\n", "\n", "a\ta", "a-a", "1", "a1", "`", "{", "\0", "\u00e4", "a\u00e4",
    "\u0430", "\uff41", "\ud800", "a" * 399 + "A",
]


class SmallTest(PlainCase):
    def check_against_texts(self, words, most):
        stock = Stock(words)
        rows = [[] for _ in range(most + 1)]
        for text in all_texts(words, most):
            rows[len(text)].append(text)
        for length, row in enumerate(rows):
            many = count_texts(stock, length)
            self.assertIs(type(many), int)
            self.assertEqual(many, len(row))
            if len(row) > 200:
                row = row[:60] + row[60:-60:37] + row[-60:]
                self.assertEqual([nth_text(stock, length, text_index(stock, text)) for text in row], row)
                self.assertEqual([text_index(stock, text) for text in row[:60]], list(range(60)))
                self.assertEqual([text_index(stock, text) for text in row[-60:]], list(range(many - 60, many)))
            else:
                self.assertEqual([nth_text(stock, length, index) for index in range(many)], row)
                self.assertEqual([text_index(stock, text) for text in row], list(range(many)))
            for index in (-1, many, many + 1):
                self.check_error(InvalidNumber, index, nth_text, stock, length, index)

    def test_against_all_texts(self):
        for words in small_rows(3, 3):
            if one_way(tuple(words)):
                with self.subTest(words=words):
                    self.check_against_texts(words, 12 if len(words) < 3 else 9)

    def test_against_all_texts_of_other_stocks(self):
        rows = [words for words in some_rows(44, 120, 4, 5) + some_rows(45, 60, 4, 4, "zyx") if one_way(tuple(words))]
        self.assertGreater(len(rows), 40)
        for words in rows:
            with self.subTest(words=words):
                self.check_against_texts(words, 12 if len(words) < 3 else 8)

    def test_texts_of_twelve_letters(self):
        for words in (["a", "b"], ["a", "ab", "bb"], ["b", "ba", "aa"], ["ba", "a", "bb"], ["aa", "ab", "ba", "bb"]):
            self.check_against_texts(words, 12)

    def test_length_nought(self):
        for words in (["a"], ["ab", "b"], ["a", "ab", "bb"], ["abcdefgh"]):
            stock = Stock(words)
            self.assertEqual(count_texts(stock, 0), 1)
            self.assertEqual(nth_text(stock, 0, 0), "")
            self.assertEqual(text_index(stock, ""), 0)
            for index in (1, -1, HUGE, -HUGE):
                self.check_error(InvalidNumber, index, nth_text, stock, 0, index)

    def test_the_alphabet_not_the_sequence_of_words(self):
        for words in (["b", "ab"], ["ab", "b"]):
            stock = Stock(words)
            self.assertEqual([nth_text(stock, 3, index) for index in range(3)], ["abb", "bab", "bbb"])
        # By the alphabet, a text with a longer first word may stand ahead, behind or between.
        stock = Stock(["bb", "ab", "a"])
        told = [nth_text(stock, 4, index) for index in range(count_texts(stock, 4))]
        self.assertEqual(
            told, ["aaaa", "aaab", "aaba", "aabb", "abaa", "abab", "abba", "abbb", "bbaa", "bbab", "bbbb"]
        )

    def test_the_sequence_of_words_changes_nothing(self):
        for words in SAMPLE[:60]:
            one, other = Stock(words), Stock(sorted(words, reverse=True))
            for length in (0, 5, 16, 33):
                many = count_texts(one, length)
                self.assertEqual(many, count_texts(other, length))
                for index in sorted({0, many // 2, many - 1}):
                    if many > 0:
                        self.assertEqual(nth_text(one, length, index), nth_text(other, length, index))


class LongTest(PlainCase):
    def check_index(self, stock, length, index):
        text = nth_text(stock, length, index)
        self.assertEqual(len(text), length)
        self.assertEqual(text_index(stock, text), index)
        return text

    def test_one_word(self):
        self.assertEqual(count_texts(Stock(["a"]), LONG), 1)
        self.assertEqual(nth_text(Stock(["a"]), LONG, 0), "a" * LONG)
        stock = Stock(["abc"])
        self.assertEqual([count_texts(stock, length) for length in (397, 398, 399, 400)], [0, 0, 1, 0])
        self.assertEqual(nth_text(stock, 399, 0), "abc" * 133)
        self.assertEqual(text_index(stock, "abc" * 133), 0)
        for index in (0, 1, -1):
            self.check_error(InvalidNumber, index, nth_text, stock, LONG, index)

    def test_all_strings(self):
        stock = Stock(list("hgfedcba"))
        many = 8 ** LONG
        self.assertEqual(count_texts(stock, LONG), many)
        self.assertEqual(nth_text(stock, LONG, 0), "a" * LONG)
        self.assertEqual(nth_text(stock, LONG, many - 1), "h" * LONG)
        self.assertEqual(self.check_index(stock, LONG, 8), "a" * 398 + "ba")
        self.check_index(stock, LONG, many // 3)
        self.check_index(stock, LONG, 10 ** 350 + 7)
        for index in (many, -1, -many):
            self.check_error(InvalidNumber, index, nth_text, stock, LONG, index)

    def test_a_and_ba(self):
        stock, row = Stock(["a", "ba"]), [1, 1]
        while len(row) <= LONG:
            row.append(row[-1] + row[-2])
        self.assertEqual([count_texts(stock, length) for length in (0, 1, 2, 3, 4, 399, 400)],
                         [1, 1, 2, 3, 5, row[399], row[400]])
        self.assertEqual(self.check_index(stock, LONG, 0), "a" * LONG)
        self.assertEqual(self.check_index(stock, LONG, row[LONG] - 1), "ba" * 200)
        self.assertEqual(self.check_index(stock, LONG, row[399]), "b" + "a" * 399)

    def test_lengths_to_400(self):
        for words in SAMPLE[::4]:
            stock = Stock(words)
            row = [1]
            for length in range(1, LONG + 1):
                row.append(sum([row[length - len(word)] for word in words if len(word) <= length]))
            for length in (1, 2, 3, 7, 8, 9, 57, 200, 399, LONG):
                self.assertEqual(count_texts(stock, length), row[length])
            if row[LONG] > 0:
                indices = sorted({0, row[LONG] - 1, row[LONG] // 3, row[LONG] * 5 // 7})
                told = [self.check_index(stock, LONG, index) for index in indices]
                self.assertEqual(told, sorted(told))
            for index in (-1, row[LONG], row[LONG] + HUGE):
                self.check_error(InvalidNumber, index, nth_text, stock, LONG, index)

    def test_neighbours(self):
        for words in (["a", "ab", "bb"], ["ab", "abb", "baab"], ["aab", "ab", "b"], ["abc", "ab", "cd"]):
            stock = Stock(words)
            many = count_texts(stock, LONG)
            start = many * 2 // 5
            told = [self.check_index(stock, LONG, start + index) for index in range(5) if start + index < many]
            self.assertEqual(told, sorted(set(told)))


class ErrorTest(PlainCase):
    TWOFOLD = [["a", "aa"], ["a", "ab", "ba"], ["aa", "aaa"], ["b", "abc", "ab", "cd", "d"], EIGHT_POWERS]

    def test_not_read_in_one_way(self):
        rows = [words for words in some_rows(46, 60, 8, 8) + HARD if not one_way(tuple(words))]
        for words in self.TWOFOLD + rows:
            stock = Stock(words)
            text = two_readings(stock)[0]
            self.check_error(NotOneWay, text, count_texts, stock, 3)
            self.check_error(NotOneWay, text, nth_text, stock, 3, 0)
            self.check_error(NotOneWay, text, text_index, stock, words[0])

    def test_the_stock_ahead_of_all_else(self):
        for words in self.TWOFOLD:
            stock = Stock(words)
            text = two_readings(stock)[0]
            for length in (-1, -HUGE):
                self.check_error(NotOneWay, text, count_texts, stock, length)
                self.check_error(NotOneWay, text, nth_text, stock, length, 0)
                self.check_error(NotOneWay, text, nth_text, stock, length, -1)
            self.check_error(NotOneWay, text, nth_text, stock, 2, HUGE)
            for wrong in OTHER_TEXTS + ["zz"]:
                self.check_error(NotOneWay, text, text_index, stock, wrong)

    def test_negative_lengths(self):
        stock = Stock(["a", "ba"])
        for length in (-1, -2, -400, -HUGE):
            self.check_error(InvalidNumber, length, count_texts, stock, length)
            for index in (0, -1, -7, 5, HUGE):
                self.check_error(InvalidNumber, length, nth_text, stock, length, index)

    def test_indices_that_no_text_has(self):
        stock = Stock(["a", "ba"])
        for length, many in ((0, 1), (1, 1), (2, 2), (3, 3), (4, 5), (10, 89)):
            for index in (-HUGE, -many, -1, many, many + 1, HUGE):
                self.check_error(InvalidNumber, index, nth_text, stock, length, index)
        self.check_error(InvalidNumber, 0, nth_text, Stock(["ab"]), 3, 0)

    def test_texts_that_are_none(self):
        stock = Stock(["a", "ba"])
        for text in ("b", "ab", "bb", "aab", "bba", "abba", "c", "ca", "ac", "z", "a" * 399 + "b"):
            self.check_error(InvalidText, text, text_index, stock, text)
        for text in OTHER_TEXTS:
            self.check_error(InvalidText, text, text_index, stock, text)
            self.check_error(InvalidText, text, text_index, Stock(["abcdefgh"]), text)

    def test_by_name(self):
        stock = Stock(["a", "ba"])
        self.check_error(InvalidNumber, -1, count_texts, length=-1, stock=stock)
        self.check_error(InvalidNumber, 7, nth_text, index=7, length=2, stock=stock)
        self.check_error(InvalidText, "b", text_index, text="b", stock=stock)
        self.check_error(NotOneWay, "aa", text_index, text="b", stock=Stock(["a", "aa"]))


class CallTest(PlainCase):
    def test_by_name(self):
        stock = Stock(["a", "ba"])
        self.assertEqual(count_texts(length=4, stock=stock), 5)
        self.assertEqual(nth_text(index=2, length=4, stock=stock), "abaa")
        self.assertEqual(nth_text(stock, 4, index=2), "abaa")
        self.assertEqual(text_index(text="baba", stock=stock), 4)

    def test_stocks_stay(self):
        stock = Stock(["bb", "ab", "a"])
        count_texts(stock, 9)
        nth_text(stock, 9, 3)
        text_index(stock, "abbba")
        self.assertEqual(stock.words, ["bb", "ab", "a"])
        self.assertEqual(count_texts(stock, 9), count_texts(stock, 9))

    def test_all_are_defined_in_the_file_that_lists_them(self):
        for name in ("count_texts", "nth_text", "text_index"):
            self.assertEqual(getattr(counts, name).__module__, "wordhulls.counts", name)


if __name__ == "__main__":
    unittest.main()
