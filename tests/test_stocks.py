"""Points 2, 3 and 4: stocks, and the texts that readings make."""

import inspect
import unittest

from wordhulls import stocks
from wordhulls.errors import InvalidNumber, InvalidReading, InvalidWord
from wordhulls.stocks import Stock, joined, with_word, without_word

EIGHT = ["a", "bb", "ccc", "dddd", "eeeee", "ffffff", "ggggggg", "hhhhhhhh"]
HUGE = 10 ** 400
# The signs beside a and z, great letters, letters of other alphabets, what
# Python takes for a letter, a space or an end of a line, and what is none.
OTHER_SIGNS = [
    "`", "{", "A", "Z", "M", "0", "9", " ", "\n", "\t", "\r", "\0", "-", "_", ".", "%",
    "\u00e4", "\u00df", "\u00e9", "\u00aa", "\u0131", "\u03b1", "\u0430", "\uff41",
    "\u0301", "\u00a0", "\u2028", "\ud800", "\U0001d41a",
]


class StockCase(unittest.TestCase):
    def check_error(self, error_class, value, function, *told, **named):
        with self.assertRaises(error_class) as caught:
            function(*told, **named)
        self.assertIs(type(caught.exception), error_class)
        self.assertEqual(caught.exception.value, value)
        self.assertIs(type(caught.exception.value), type(value))


class WordsTest(StockCase):
    def test_words_are_as_they_were_passed(self):
        for words in (
            ["a"],
            ["z"],
            ["abcdefgh"],
            ["b", "a"],
            ["ba", "a", "ab", "aa"],
            ["stuvwxyz", "ijklmnop", "qr"],
            EIGHT,
            EIGHT[::-1],
        ):
            told = Stock(list(words)).words
            self.assertIs(type(told), list)
            self.assertEqual(told, words)

    def test_words_is_a_property(self):
        self.assertIsInstance(inspect.getattr_static(Stock, "words"), property)

    def test_the_passed_list_is_not_changed(self):
        words = ["b", "a", "ab"]
        Stock(words)
        self.assertEqual(words, ["b", "a", "ab"])

    def test_the_passed_list_is_not_kept(self):
        words = ["b", "a"]
        stock = Stock(words)
        words.append("c")
        words[0] = "z"
        self.assertEqual(stock.words, ["b", "a"])
        self.assertEqual(stock, Stock(["b", "a"]))

    def test_the_told_list_is_new(self):
        stock = Stock(["b", "a"])
        told = stock.words
        self.assertIsNot(told, stock.words)
        told.append("c")
        told[0] = "z"
        self.assertEqual(stock.words, ["b", "a"])
        self.assertEqual(joined(stock, [0, 1]), "ba")
        self.assertEqual(stock, Stock(["b", "a"]))

    def test_a_told_list_may_be_passed_on(self):
        stock = Stock(["b", "a"])
        self.assertEqual(Stock(stock.words), stock)

    def test_by_name(self):
        self.assertEqual(Stock(words=["b", "a"]).words, ["b", "a"])


class EqualityTest(StockCase):
    def check_equal(self, one, other):
        self.assertIs(one == other, True)
        self.assertIs(other == one, True)
        self.assertIs(one != other, False)
        self.assertIs(other != one, False)

    def check_unequal(self, one, other):
        self.assertIs(one == other, False)
        self.assertIs(other == one, False)
        self.assertIs(one != other, True)
        self.assertIs(other != one, True)

    def test_equal_words_in_their_sequence(self):
        for words in (["a"], ["b", "a"], EIGHT):
            self.check_equal(Stock(words), Stock(list(words)))
        stock = Stock(["a", "b"])
        self.check_equal(stock, stock)

    def test_other_words(self):
        rows = [
            ["a"], ["b"], ["a", "b"], ["b", "a"], ["ab"], ["ba"], ["a", "b", "c"],
            ["c", "b", "a"], ["b", "c"], ["ab", "c"], ["a", "bc"], ["abc"], EIGHT, EIGHT[1:],
        ]
        for place, one in enumerate(rows):
            for other in rows[:place]:
                with self.subTest(one=one, other=other):
                    self.check_unequal(Stock(one), Stock(other))

    def test_nothing_else(self):
        class LooksLike:
            words = ["a", "b"]
            _words = ("a", "b")

        stock = Stock(["a", "b"])
        for other in (
            ["a", "b"], ("a", "b"), {"a": 0, "b": 1}, {"a", "b"}, "a b", "ab", b"ab", None, True,
            False, 0, 1, 2, [], (), "", Stock, object(), LooksLike(), [stock], InvalidWord("a"),
        ):
            with self.subTest(other=other):
                self.check_unequal(stock, other)
        self.check_unequal(Stock(["a"]), "a")


class StockCheckTest(StockCase):
    def check_word(self, word, words):
        self.check_error(InvalidWord, word, Stock, words)

    def test_empty_word(self):
        self.check_word("", [""])
        self.check_word("", ["a", "", "b"])

    def test_lengths_of_words(self):
        for length in range(1, 9):
            self.assertEqual(Stock(["z" * length]).words, ["z" * length])
        for length in (9, 10, 16, 400):
            self.check_word("a" * length, ["a" * length])
            self.check_word("a" * length, ["a", "b", "a" * length])

    def test_all_letters(self):
        for sign in "abcdefghijklmnopqrstuvwxyz":
            self.assertEqual(Stock([sign, sign + sign]).words, [sign, sign + sign])

    def test_other_signs(self):
        for sign in OTHER_SIGNS:
            for word in (sign, "a" + sign, sign + "a", "a" + sign + "b", "abcdefg" + sign):
                with self.subTest(word=word):
                    self.check_word(word, [word])
                    self.check_word(word, ["b", word, "c"])

    def test_a_word_twice(self):
        self.check_word("a", ["a", "a"])
        self.check_word("a", ["a", "b", "a"])
        self.check_word("b", ["a", "b", "b", "a"])
        self.check_word("a", ["a", "b", "a", "b"])
        self.check_word("ab", ["b", "ab", "a", "ab"])
        self.check_word("h", ["a", "b", "c", "d", "e", "f", "g", "h", "h"])

    def test_numbers_of_words(self):
        letters = "abcdefghijklmnopqrstuvwxyz"
        self.check_error(InvalidNumber, 0, Stock, [])
        for number in range(1, 9):
            self.assertEqual(Stock(list(letters[:number])).words, list(letters[:number]))
        for number in (9, 10, 16, 26):
            self.check_error(InvalidNumber, number, Stock, list(letters[:number]))
        many = [one + other for one in letters for other in letters][:400]
        self.check_error(InvalidNumber, 400, Stock, many)

    def test_the_first_such_word(self):
        self.check_word("A", ["a", "A", "", "a"])
        self.check_word("", ["a", "", "A", "a"])
        self.check_word("a", ["a", "a", "A", ""])
        self.check_word("abcdefghi", ["abcdefghi", "a", "a"])
        # A word is asked for its letters where it stands first.
        self.check_word("B", ["B", "a", "B"])

    def test_words_ahead_of_their_number(self):
        nine = list("abcdefghi")
        self.check_word("I", nine[:8] + ["I"])
        self.check_word("a", nine + ["a"])
        self.check_word("", nine + [""])
        self.check_word("abcdefghi", nine + list("jklm") + ["abcdefghi", ""])

    def test_by_name(self):
        self.check_error(InvalidWord, "A", Stock, words=["A"])
        self.check_error(InvalidNumber, 0, Stock, words=[])

    def test_the_passed_list_is_not_changed_by_an_error(self):
        words = ["b", "a", "B", "a"]
        self.check_word("B", words)
        self.assertEqual(words, ["b", "a", "B", "a"])


class JoinedTest(StockCase):
    def test_ordinary_readings(self):
        stock = Stock(["a", "ab", "ba"])
        self.assertEqual(joined(stock, [0]), "a")
        self.assertEqual(joined(stock, [2]), "ba")
        self.assertEqual(joined(stock, [0, 2]), "aba")
        self.assertEqual(joined(stock, [2, 0]), "baa")
        self.assertEqual(joined(stock, [1, 0]), "aba")
        self.assertEqual(joined(stock, [1, 1, 2, 0, 2]), "ababbaaba")

    def test_the_empty_reading(self):
        self.assertEqual(joined(Stock(["a", "b"]), []), "")

    def test_each_number(self):
        for number, word in enumerate(EIGHT):
            self.assertEqual(joined(Stock(EIGHT), [number]), word)
        self.assertEqual(joined(Stock(EIGHT), list(range(7, -1, -1))), "".join(EIGHT[::-1]))

    def test_long_readings(self):
        self.assertEqual(joined(Stock(["abcdefgh"]), [0] * 400), "abcdefgh" * 400)
        self.assertEqual(joined(Stock(["a", "b"]), [0, 1] * 1600), "ab" * 1600)

    def test_by_name(self):
        self.assertEqual(joined(reading=[1, 0], stock=Stock(["a", "b"])), "ba")
        self.check_error(InvalidReading, 2, joined, reading=[2], stock=Stock(["a", "b"]))

    def test_arguments_are_not_changed(self):
        stock, reading = Stock(["b", "a"]), [1, 0, 1]
        self.assertEqual(joined(stock, reading), "aba")
        self.assertEqual(reading, [1, 0, 1])
        self.assertEqual(stock.words, ["b", "a"])

    def test_numbers_that_no_word_has(self):
        stock = Stock(["a", "ab", "ba"])
        for number in (3, 4, 100, HUGE, -1, -2, -3, -4, -100, -HUGE):
            for reading in ([number], [0, number], [number, 1], [2, 1, number, 0]):
                self.check_error(InvalidReading, number, joined, stock, reading)
        self.check_error(InvalidReading, 1, joined, Stock(["a"]), [0, 1])
        self.check_error(InvalidReading, 8, joined, Stock(EIGHT), [7, 8])

    def test_the_first_number_that_no_word_has(self):
        stock = Stock(["a", "b"])
        self.check_error(InvalidReading, 5, joined, stock, [0, 5, -1, 3])
        self.check_error(InvalidReading, -1, joined, stock, [1, -1, 5, -2])
        self.check_error(InvalidReading, HUGE, joined, stock, [HUGE, -HUGE])
        reading = [0, 2, 1]
        self.check_error(InvalidReading, 2, joined, stock, reading)
        self.assertEqual(reading, [0, 2, 1])
        self.assertEqual(stock.words, ["a", "b"])


class WithWordTest(StockCase):
    def test_behind_the_others(self):
        stock = Stock(["b", "c"])
        told = with_word(stock, "a")
        self.assertIs(type(told), Stock)
        self.assertEqual(told.words, ["b", "c", "a"])
        self.assertEqual(told, Stock(["b", "c", "a"]))
        self.assertEqual(with_word(told, "bc").words, ["b", "c", "a", "bc"])

    def test_the_old_stock_stays(self):
        stock = Stock(["b", "c"])
        with_word(stock, "a")
        self.assertEqual(stock.words, ["b", "c"])

    def test_up_to_eight(self):
        stock = Stock(EIGHT[:1])
        for word in EIGHT[1:]:
            stock = with_word(stock, word)
        self.assertEqual(stock.words, EIGHT)
        self.check_error(InvalidNumber, 9, with_word, stock, "z")
        self.assertEqual(stock.words, EIGHT)

    def test_wrong_words(self):
        stock = Stock(["a", "ab"])
        for word in ("", "a", "ab", "A", "abcdefghi", "a b", "a\n", "\u00e4"):
            self.check_error(InvalidWord, word, with_word, stock, word)
            self.assertEqual(stock.words, ["a", "ab"])
        self.assertEqual(with_word(stock, "abcdefgh").words, ["a", "ab", "abcdefgh"])

    def test_the_word_ahead_of_the_number(self):
        for word in ("", "a", "hhhhhhhh", "Z", "abcdefghi"):
            self.check_error(InvalidWord, word, with_word, Stock(EIGHT), word)

    def test_by_name(self):
        self.assertEqual(with_word(word="b", stock=Stock(["a"])).words, ["a", "b"])
        self.check_error(InvalidWord, "a", with_word, word="a", stock=Stock(["a"]))


class WithoutWordTest(StockCase):
    def test_each_place(self):
        for place, word in enumerate(EIGHT):
            told = without_word(Stock(EIGHT), word)
            self.assertIs(type(told), Stock)
            self.assertEqual(told.words, EIGHT[:place] + EIGHT[place + 1:])
            self.assertEqual(told, Stock(EIGHT[:place] + EIGHT[place + 1:]))

    def test_the_sequence_stays(self):
        self.assertEqual(without_word(Stock(["c", "a", "b"]), "a").words, ["c", "b"])

    def test_the_old_stock_stays(self):
        stock = Stock(["b", "c", "a"])
        without_word(stock, "c")
        self.assertEqual(stock.words, ["b", "c", "a"])

    def test_back_again(self):
        stock = Stock(["b", "c"])
        self.assertEqual(without_word(with_word(stock, "a"), "a"), stock)

    def test_words_that_are_not_there(self):
        stock = Stock(["ab", "c"])
        for word in ("a", "b", "abc", "", "AB", "ab ", "abcdefghi", "\u00e4", "a" * 400):
            self.check_error(InvalidWord, word, without_word, stock, word)
            self.assertEqual(stock.words, ["ab", "c"])

    def test_the_only_word(self):
        stock = Stock(["ab"])
        self.check_error(InvalidNumber, 0, without_word, stock, "ab")
        self.assertEqual(stock.words, ["ab"])

    def test_the_word_ahead_of_the_number(self):
        for word in ("a", "", "ba", "abab", "AB"):
            self.check_error(InvalidWord, word, without_word, Stock(["ab"]), word)

    def test_by_name(self):
        self.assertEqual(without_word(word="a", stock=Stock(["a", "b"])).words, ["b"])
        self.check_error(InvalidWord, "c", without_word, word="c", stock=Stock(["a"]))


class PlaceTest(unittest.TestCase):
    def test_all_are_defined_in_the_file_that_lists_them(self):
        for name in ("Stock", "joined", "with_word", "without_word"):
            self.assertEqual(getattr(stocks, name).__module__, "wordhulls.stocks", name)


if __name__ == "__main__":
    unittest.main()
