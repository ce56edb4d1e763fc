"""Points 2 to 7: the common texts of two stocks that are read in one way, and the words of their base."""

import unittest

from brute import (
    EIGHT_POWERS, LetterPairs, PlainCase, base_of, by_length, code_rows, common_of, is_base_word, one_way, shortlex,
    small_rows, some_pairs, some_rows,
)
from hard import HARD, HARD_PAIRS
from wordhulls import commons
from wordhulls.commons import count_base, count_common, first_common, nth_base, nth_common
from wordhulls.errors import InvalidNumber, NotOneWay
from wordhulls.oneway import two_readings
from wordhulls.readings import is_text
from wordhulls.stocks import Stock

HUGE = 10 ** 400
LONG = 400
COUNTS = (count_common, count_base)
NTHS = (nth_common, nth_base)
ROWS = code_rows(some_rows(51, 400, 4, 4) + some_rows(52, 200, 5, 3) + some_rows(53, 200, 4, 3, "abc"))
LARGE_ROWS = code_rows(some_rows(54, 500, 8, 8) + some_rows(55, 200, 6, 8, "abc"))
TWOFOLD = [["a", "aa"], ["a", "ab", "ba"], ["aa", "aaa"], ["b", "abc", "ab", "cd", "d"], EIGHT_POWERS]


class SmallTest(PlainCase):
    def check_rows(self, stock, other, count, nth, rows):
        """Checks the lists of all that there is of each length."""
        for length, row in enumerate(rows):
            many = count(stock, other, length)
            self.assertIs(type(many), int)
            self.assertEqual(many, len(row))
            indices = range(many) if many < 40 else list(range(20)) + list(range(20, many, 29)) + [many - 1]
            self.assertEqual(
                [nth(stock, other, length, index) for index in indices], [row[index] for index in indices]
            )
            for index in (-1, many, many + 1):
                self.check_error(InvalidNumber, index, nth, stock, other, length, index)

    def check_against_texts(self, words, others, most):
        texts = common_of(words, others, most)
        told = base_of(texts)
        for one, two in ((words, others), (others, words)):
            stock, other = Stock(one), Stock(two)
            self.check_rows(stock, other, count_common, nth_common, by_length(texts, most))
            self.check_rows(stock, other, count_base, nth_base, by_length(told, most))
            self.check_first(stock, other, told, most)

    def check_first(self, stock, other, told, most):
        first = first_common(stock, other)
        if told:
            self.assertEqual(first, told[0])
        elif first is not None:
            self.assertGreater(len(first), most)
            self.assertTrue(is_text(stock, first) and is_text(other, first))

    def test_against_all_texts_of_the_smallest_stocks(self):
        rows = code_rows(small_rows(2, 2))
        for words in rows:
            for others in rows:
                with self.subTest(words=words, others=others):
                    self.check_against_texts(words, others, 7)

    def test_against_all_texts_of_small_stocks(self):
        for words, others in some_pairs(56, 60, code_rows(small_rows(3, 3))) + some_pairs(57, 60, ROWS):
            with self.subTest(words=words, others=others):
                self.check_against_texts(words, others, 9)

    def test_against_longer_texts(self):
        for words, others in (
            (["a", "ba"], ["a", "ab"]), (["aab", "ba"], ["aa", "ba", "bba"]), (["ab", "ba", "bb"], ["a", "bba", "bbb"]),
            (["abc", "ca", "b"], ["ab", "cab", "cc"]),
        ):
            self.check_against_texts(words, others, 13)

    def test_the_alphabet_not_the_sequence_of_words(self):
        for words, others in some_pairs(58, 40, ROWS):
            one, other = Stock(words), Stock(others)
            for turned, other_turned in ((Stock(words[::-1]), other), (other, Stock(sorted(words)))):
                for count, nth in zip(COUNTS, NTHS):
                    for length in (3, 6):
                        many = count(one, other, length)
                        self.assertEqual(count(turned, other_turned, length), many)
                        told = [nth(one, other, length, index) for index in range(many)]
                        self.assertEqual(told, sorted(told))
                        self.assertEqual([nth(turned, other_turned, length, index) for index in range(many)], told)
                self.assertEqual(first_common(turned, other_turned), first_common(one, other))


class KindsTest(PlainCase):
    def test_length_nought(self):
        for words, others in some_pairs(59, 30, ROWS + LARGE_ROWS) + [(["a"], ["b"]), (["a"], ["a"])]:
            stock, other = Stock(words), Stock(others)
            self.assertEqual(count_common(stock, other, 0), 1)
            self.assertEqual(nth_common(stock, other, 0, 0), "")
            self.assertEqual(count_base(stock, other, 0), 0)
            for index in (0, 1, -1, HUGE, -HUGE):
                self.check_error(InvalidNumber, index, nth_base, stock, other, 0, index)
                if index != 0:
                    self.check_error(InvalidNumber, index, nth_common, stock, other, 0, index)

    def test_a_stock_with_itself(self):
        for words in ROWS[:40] + LARGE_ROWS[:40]:
            stock, again = Stock(words), Stock(words)
            for other in (stock, again):
                for length, row in enumerate(by_length(words, 9)):
                    self.assertEqual(count_base(stock, other, length), len(row))
                    self.assertEqual([nth_base(stock, other, length, index) for index in range(len(row))], row)
                self.assertEqual(first_common(stock, other), min(words, key=shortlex))
                counts = [1]
                for length in range(1, 30):
                    counts.append(sum([counts[length - len(word)] for word in words if len(word) <= length]))
                self.assertEqual(count_common(stock, other, 29), counts[29])

    def test_words_made_of_words_of_the_other_stock(self):
        for words, others in (
            (["ab", "ba", "bb"], ["a", "b"]), (["aab", "ab", "bb"], ["a", "ab", "bb"]), (["abab"], ["ab"]),
            (["abba", "cab"], ["ab", "ba", "c"]),
        ):
            for one, two in ((words, others), (others, words)):
                stock, other = Stock(one), Stock(two)
                rows = by_length(words, 5)
                self.assertEqual([count_base(stock, other, length) for length in range(6)], [len(row) for row in rows])
                self.assertEqual([nth_base(stock, other, 2, index) for index in range(len(rows[2]))], rows[2])
                self.assertEqual(first_common(stock, other), min(words, key=shortlex))

    def test_no_letter_in_common(self):
        for words, others in ((["a"], ["b"]), (["ab", "ba"], ["c", "dd"]), (["abcdefgh"], ["z", "yx", "w"])):
            stock, other = Stock(words), Stock(others)
            self.assertIsNone(first_common(stock, other))
            for length in (1, 2, 7, 8, LONG):
                for count, nth in zip(COUNTS, NTHS):
                    self.assertEqual(count(stock, other, length), 0)
                    self.check_error(InvalidNumber, 0, nth, stock, other, length, 0)

    def test_nothing_in_common(self):
        for words, others in ((["ab"], ["ba"]), (["ab"], ["a"]), (["aab", "aabb"], ["ba", "bba"])):
            stock, other = Stock(words), Stock(others)
            self.assertIsNone(first_common(stock, other))
            self.assertEqual([count_common(stock, other, length) for length in (0, 1, 12, 399, LONG)], [1, 0, 0, 0, 0])
            self.assertEqual([count_base(stock, other, length) for length in (0, 1, 12, 399, LONG)], [0] * 5)

    def test_powers_of_one_letter(self):
        for one in range(1, 9):
            for other in range(1, 9):
                least = next(many for many in range(1, 65) if many % one == 0 and many % other == 0)
                words, others = Stock(["a" * one]), Stock(["a" * other])
                self.assertEqual(first_common(words, others), "a" * least)
                for length in (1, least - 1, least, least + 1, 2 * least, 280, 399, LONG):
                    self.assertEqual(count_common(words, others, length), 1 if length % least == 0 else 0)
                    self.assertEqual(count_base(words, others, length), 1 if length == least else 0)
                self.assertEqual(nth_common(words, others, 3 * least, 0), "a" * (3 * least))
                self.assertEqual(nth_base(words, others, least, 0), "a" * least)


class LongTest(PlainCase):
    def check_long(self, words, others, lengths):
        stock, other = Stock(words), Stock(others)
        for count, nth, once in ((count_common, nth_common, False), (count_base, nth_base, True)):
            pairs = LetterPairs(words, others, once)
            counts = pairs.counts(max(lengths))
            for length in lengths:
                many = counts[length]
                self.assertEqual(count(stock, other, length), many)
                self.assertEqual(count(other, stock, length), many)
                for index in sorted({0, many // 3, many * 5 // 7, many - 1}):
                    if many > 0:
                        text = nth(stock, other, length, index)
                        self.assertEqual(len(text), length)
                        self.assertTrue(is_text(stock, text) and is_text(other, text))
                        self.assertEqual(is_base_word(words, others, text) or not once, True)
                        self.assertEqual(pairs.rank(text), index)
                for index in (-1, many, many + HUGE):
                    self.check_error(InvalidNumber, index, nth, stock, other, length, index)

    def test_lengths_to_400(self):
        for words, others in some_pairs(60, 25, ROWS) + some_pairs(61, 12, LARGE_ROWS):
            with self.subTest(words=words, others=others):
                self.check_long(words, others, (7, 8, 9, 20, 57, 200, 399, LONG))

    def test_hard_pairs(self):
        for words, others in HARD_PAIRS:
            with self.subTest(words=words, others=others):
                self.check_long(words, others, (33, 150, LONG))

    def test_all_strings(self):
        one, other = Stock(list("hgfedcba")), Stock(list("abcdefgh"))
        many = 8 ** LONG
        self.assertEqual(count_common(one, other, LONG), many)
        self.assertEqual(nth_common(one, other, LONG, 8), "a" * 398 + "ba")
        self.assertEqual(nth_common(one, other, LONG, many - 1), "h" * LONG)
        self.check_error(InvalidNumber, many, nth_common, one, other, LONG, many)
        self.assertEqual([count_base(one, other, length) for length in (0, 1, 2, LONG)], [0, 8, 0, 0])
        self.assertEqual(nth_base(one, other, 1, 7), "h")

    def test_words_of_the_base_of_any_length(self):
        one, other = Stock(["a", "ba"]), Stock(["a", "ab"])
        self.assertEqual([count_base(one, other, length) for length in (397, 398, 399, LONG)], [1, 0, 1, 0])
        self.assertEqual(nth_base(one, other, 399, 0), "a" + "ba" * 199)
        # As many common texts as there are rows of words of the base.
        counts = [1]
        for length in range(1, LONG + 1):
            counts.append(sum(counts[length - 1::-2]))
        self.assertEqual(count_common(one, other, LONG), counts[LONG])

    def test_common_texts_are_made_of_the_base(self):
        for words, others in some_pairs(62, 30, ROWS + LARGE_ROWS) + HARD_PAIRS:
            one, other = Stock(words), Stock(others)
            told = [count_base(one, other, length) for length in range(41)]
            counts = [1]
            for length in range(1, 41):
                counts.append(sum([told[first] * counts[length - first] for first in range(1, length + 1)]))
            for length in (10, 25, 40):
                self.assertEqual(count_common(one, other, length), counts[length])


class FirstTest(PlainCase):
    def check_first(self, words, others, most):
        """Checks the least common text against the words of the base of all lengths to the most."""
        stock, other = Stock(words), Stock(others)
        pairs = LetterPairs(words, others, True)
        told = [length for length, many in enumerate(pairs.counts(most)) if many]
        first = first_common(stock, other)
        self.assertEqual(first, first_common(other, stock))
        if not told:
            self.assertIsNone(first)
        else:
            self.assertEqual(len(first), told[0])
            self.assertTrue(is_base_word(words, others, first))
            self.assertEqual(pairs.rank(first), 0)

    def test_against_counts(self):
        for words, others in some_pairs(63, 150, ROWS) + some_pairs(64, 60, LARGE_ROWS):
            with self.subTest(words=words, others=others):
                self.check_first(words, others, 200)

    def test_long_ones(self):
        lengths = []
        for words, others in HARD_PAIRS:
            self.check_first(words, others, LONG)
            lengths.append(len(first_common(Stock(words), Stock(others)) or ""))
        self.assertGreater(max(lengths), 75)
        self.assertEqual(first_common(Stock(["a" * 7]), Stock(["a" * 8])), "a" * 56)

    def test_the_shortest_then_the_alphabet(self):
        self.assertEqual(first_common(Stock(["b", "aa"]), Stock(["b", "aa"])), "b")
        self.assertEqual(first_common(Stock(["bb", "ab", "ba"]), Stock(["b", "a"])), "ab")
        self.assertEqual(first_common(Stock(["bb", "ba", "aaa"]), Stock(["b", "a"])), "ba")
        self.assertEqual(first_common(Stock(["bba", "aab"]), Stock(["b", "a"])), "aab")


class ErrorTest(PlainCase):
    def check_all(self, error_class, value, stock, other, length, index):
        for nth in NTHS:
            self.check_error(error_class, value, nth, stock, other, length, index)

    def test_not_read_in_one_way(self):
        good = Stock(["a", "ba"])
        rows = [words for words in some_rows(65, 40, 8, 8) + HARD if not one_way(tuple(words))]
        for words in TWOFOLD + rows:
            stock = Stock(words)
            text = two_readings(stock)[0]
            for one, other in ((stock, good), (good, stock), (stock, stock)):
                for function in COUNTS:
                    self.check_error(NotOneWay, text, function, one, other, 3)
                self.check_all(NotOneWay, text, one, other, 3, 0)
                self.check_error(NotOneWay, text, first_common, one, other)

    def test_the_first_stock_then_the_other_one_then_the_length_then_the_index(self):
        good = Stock(["a", "ba"])
        for words, others in zip(TWOFOLD, TWOFOLD[1:] + TWOFOLD[:1]):
            stock, other = Stock(words), Stock(others)
            text, other_text = two_readings(stock)[0], two_readings(other)[0]
            self.check_error(NotOneWay, text, first_common, stock, other)
            for length, index in ((-1, 0), (-HUGE, -1), (2, HUGE), (-3, HUGE), (0, 0)):
                for function in COUNTS:
                    self.check_error(NotOneWay, text, function, stock, other, length)
                    self.check_error(NotOneWay, other_text, function, good, other, length)
                self.check_all(NotOneWay, text, stock, other, length, index)
                self.check_all(NotOneWay, text, stock, good, length, index)
                self.check_all(NotOneWay, other_text, good, other, length, index)

    def test_negative_lengths(self):
        stock, other = Stock(["a", "ba"]), Stock(["a", "ab"])
        for length in (-1, -2, -400, -HUGE):
            for function in COUNTS:
                self.check_error(InvalidNumber, length, function, stock, other, length)
                self.check_error(InvalidNumber, length, function, stock, Stock(["z"]), length)
            for index in (0, -1, -7, 5, HUGE):
                self.check_all(InvalidNumber, length, stock, other, length, index)

    def test_indices_that_nothing_has(self):
        stock, other = Stock(["a", "ba"]), Stock(["a", "ab"])
        for length in (0, 1, 2, 3, 5, 12, LONG):
            for count, nth in zip(COUNTS, NTHS):
                many = count(stock, other, length)
                for index in (-HUGE, -1, many, many + 1, HUGE):
                    self.check_error(InvalidNumber, index, nth, stock, other, length, index)
                if many > 0:
                    self.check_error(InvalidNumber, -many, nth, stock, other, length, -many)

    def test_by_name(self):
        good, wrong = Stock(["a", "ba"]), Stock(["a", "aa"])
        self.check_error(NotOneWay, "aa", count_common, length=-1, other=wrong, stock=good)
        self.check_error(InvalidNumber, -1, count_base, length=-1, other=good, stock=good)
        self.check_error(InvalidNumber, 9, nth_base, index=9, length=2, other=good, stock=good)
        self.check_error(InvalidNumber, 9, nth_common, index=9, length=2, other=good, stock=good)
        self.check_error(NotOneWay, "aa", first_common, other=good, stock=wrong)


class CallTest(PlainCase):
    def test_by_name(self):
        one, other = Stock(["a", "ba"]), Stock(["a", "ab"])
        self.assertEqual(count_common(length=5, other=other, stock=one), 5)
        self.assertEqual(nth_common(index=1, length=3, other=other, stock=one), "aba")
        self.assertEqual(nth_common(one, other, 3, index=1), "aba")
        self.assertEqual(count_base(length=5, other=other, stock=one), 1)
        self.assertEqual(nth_base(index=0, length=5, other=other, stock=one), "ababa")
        self.assertEqual(first_common(other=other, stock=one), "a")

    def test_stocks_stay_and_answers_too(self):
        words, others = ["bb", "ab", "a"], ["bbb", "ba", "a"]
        one, other = Stock(words), Stock(others)

        def answers():
            return (
                [count_common(one, other, length) for length in range(12)],
                [count_base(one, other, length) for length in range(12)],
                nth_common(one, other, 9, 3), nth_base(one, other, 5, 0), first_common(one, other),
            )

        told = answers()
        for stock, another in ((other, one), (one, one), (Stock(["a"]), one), (one, Stock(["b"]))):
            count_common(stock, another, 20)
            count_base(stock, another, 20)
            first_common(stock, another)
            self.check_error(InvalidNumber, -1, nth_base, stock, another, 4, -1)
            self.assertEqual(answers(), told)
        self.assertEqual([one.words, other.words], [words, others])

    def test_all_are_defined_in_the_file_that_lists_them(self):
        for name in ("count_common", "nth_common", "count_base", "nth_base", "first_common"):
            self.assertEqual(getattr(commons, name).__module__, "wordhulls.commons", name)


if __name__ == "__main__":
    unittest.main()
