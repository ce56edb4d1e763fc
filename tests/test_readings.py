"""Points 2, 3 and 4: the readings of texts."""

import itertools
import unittest

from wordhulls import readings
from wordhulls.errors import InvalidNumber, InvalidReading, InvalidText
from wordhulls.readings import count_readings, is_text, nth_reading, reading_index
from wordhulls.stocks import Stock, joined

HUGE = 10 ** 400
LONG = 3200
POWERS = ["a" * length for length in range(1, 9)]
SMALL = [
    ["a"],
    ["ab"],
    ["a", "aa"],
    ["aa", "a"],
    ["aa", "aaa"],
    ["a", "b"],
    ["b", "a"],
    ["a", "ab", "ba"],
    ["ba", "ab", "a"],
    ["ab", "a", "bb"],
    ["b", "ab", "ba", "aba", "a"],
    ["aba", "ab", "a", "b", "ba", "bab", "aa", "bb"],
    ["aaa", "a", "aaaa", "aa"],
    ["abc", "a", "bc", "c", "ab"],
    ["abababab", "ab", "abab", "a", "b"],
]


def all_readings(words, most):
    """All readings of at most so many letters, by the texts that they make."""
    found = {}
    ahead = [[]]
    while ahead:
        reading = ahead.pop()
        text = "".join([words[number] for number in reading])
        found.setdefault(text, []).append(reading)
        for number, word in enumerate(words):
            if len(text) + len(word) <= most:
                ahead.append(reading + [number])
    return {text: sorted(rows) for text, rows in found.items()}


def all_strings(letters, most):
    for length in range(most + 1):
        for signs in itertools.product(letters, repeat=length):
            yield "".join(signs)


def fibonacci(most):
    """How many readings the texts of 0 to most letters a have by the words a and aa."""
    row = [1, 1]
    while len(row) <= most:
        row.append(row[-1] + row[-2])
    return row


class ReadingsCase(unittest.TestCase):
    def check_error(self, error_class, value, function, *told, **named):
        with self.assertRaises(error_class) as caught:
            function(*told, **named)
        self.assertIs(type(caught.exception), error_class)
        self.assertEqual(caught.exception.value, value)
        self.assertIs(type(caught.exception.value), type(value))


class SmallTest(ReadingsCase):
    def test_against_all_readings(self):
        for words in SMALL:
            stock = Stock(words)
            letters = sorted(set("".join(words)))
            most = 6 if len(letters) > 2 else 8
            found = all_readings(words, most)
            for text in all_strings(letters, most):
                with self.subTest(words=words, text=text):
                    self.check_text(stock, text, found.get(text, []))

    def check_text(self, stock, text, rows):
        many = count_readings(stock, text)
        self.assertIs(type(many), int)
        self.assertEqual(many, len(rows))
        self.assertIs(is_text(stock, text), len(rows) > 0)
        self.assertEqual([nth_reading(stock, text, index) for index in range(many)], rows)
        self.assertEqual([reading_index(stock, row) for row in rows], list(range(many)))
        for index in (-1, many, many + 1):
            self.check_error(InvalidNumber, index, nth_reading, stock, text, index)

    def test_the_order_is_that_of_lists_not_of_words(self):
        stock = Stock(["ba", "ab", "a"])
        self.assertEqual([nth_reading(stock, "aba", index) for index in (0, 1)], [[1, 2], [2, 0]])
        self.assertEqual([reading_index(stock, row) for row in ([2, 0], [1, 2])], [1, 0])

    def test_the_empty_text(self):
        for words in SMALL:
            stock = Stock(words)
            self.assertEqual(count_readings(stock, ""), 1)
            self.assertEqual(nth_reading(stock, "", 0), [])
            self.assertEqual(reading_index(stock, []), 0)
            self.assertIs(is_text(stock, ""), True)
            self.check_error(InvalidNumber, 1, nth_reading, stock, "", 1)
            self.check_error(InvalidNumber, -1, nth_reading, stock, "", -1)

    def test_texts_without_a_reading(self):
        stock = Stock(["ab", "ba"])
        for text in ("a", "b", "aba", "aab", "abb", "c", "abc", "cab", "z", "abab" + "a", "bb"):
            self.assertEqual(count_readings(stock, text), 0)
            self.assertIs(is_text(stock, text), False)
            self.check_error(InvalidNumber, 0, nth_reading, stock, text, 0)

    def test_all_letters_are_taken(self):
        letters = "abcdefghijklmnopqrstuvwxyz"
        stock = Stock(["abcdefgh", "ijklmnop", "qrstuvwx", "yz"])
        self.assertEqual(count_readings(stock, letters), 1)
        self.assertEqual(nth_reading(stock, letters, 0), [0, 1, 2, 3])
        self.assertEqual(count_readings(stock, letters[::-1]), 0)

    def test_told_lists_are_new(self):
        stock = Stock(["a", "aa"])
        told = nth_reading(stock, "aaa", 1)
        self.assertIs(type(told), list)
        told.append(7)
        told[0] = 9
        self.assertEqual(nth_reading(stock, "aaa", 1), [0, 1])
        empty = nth_reading(stock, "", 0)
        empty.append(1)
        self.assertEqual(nth_reading(stock, "", 0), [])

    def test_told_numbers_are_integers(self):
        for index in range(3):
            for number in nth_reading(Stock(["a", "aa"]), "aaa", index):
                self.assertIs(type(number), int)
        for reading in ([], [0, 1], [1, 0]):
            self.assertIs(type(reading_index(Stock(["a", "aa"]), reading)), int)

    def test_arguments_are_not_changed(self):
        stock, reading = Stock(["aa", "a"]), [1, 0, 1]
        reading_index(stock, reading)
        nth_reading(stock, "aaa", 2)
        self.assertEqual(reading, [1, 0, 1])
        self.assertEqual(stock.words, ["aa", "a"])


class LongTest(ReadingsCase):
    def check_index(self, stock, text, index):
        reading = nth_reading(stock, text, index)
        self.assertEqual(joined(stock, reading), text)
        self.assertEqual(reading_index(stock, reading), index)
        return reading

    def test_a_and_aa(self):
        stock, text = Stock(["a", "aa"]), "a" * LONG
        many = fibonacci(LONG)[LONG]
        self.assertGreater(many, HUGE)
        self.assertEqual(count_readings(stock, text), many)
        self.assertIs(is_text(stock, text), True)
        self.assertEqual(self.check_index(stock, text, 0), [0] * LONG)
        self.assertEqual(self.check_index(stock, text, 1), [0] * (LONG - 2) + [1])
        self.assertEqual(self.check_index(stock, text, 2), [0] * (LONG - 3) + [1, 0])
        self.assertEqual(self.check_index(stock, text, many - 1), [1] * (LONG // 2))
        self.assertEqual(
            self.check_index(stock, text, many - 2), [1] * (LONG // 2 - 1) + [0, 0]
        )

    def test_aa_and_a(self):
        stock, text = Stock(["aa", "a"]), "a" * LONG
        many = fibonacci(LONG)[LONG]
        self.assertEqual(count_readings(stock, text), many)
        self.assertEqual(self.check_index(stock, text, 0), [0] * (LONG // 2))
        self.assertEqual(self.check_index(stock, text, many - 1), [1] * LONG)

    def test_other_indices_of_a_and_aa(self):
        stock, text = Stock(["a", "aa"]), "a" * LONG
        many = fibonacci(LONG)
        # The readings that begin with a stand ahead of those that begin with aa.
        first_with_aa = many[LONG - 1]
        self.assertEqual(
            self.check_index(stock, text, first_with_aa), [1] + [0] * (LONG - 2)
        )
        self.assertEqual(
            self.check_index(stock, text, first_with_aa - 1),
            [0] + [1] * (LONG // 2 - 1) + [0],
        )
        indices = [many[LONG] * part // 17 for part in range(17)] + [HUGE, HUGE + 1, HUGE - 1]
        rows = [self.check_index(stock, text, index) for index in sorted(indices)]
        self.assertEqual(rows, sorted(rows))
        self.assertEqual([rows.count(row) for row in rows], [1] * len(rows))

    def test_powers_of_a(self):
        stock, text = Stock(POWERS), "a" * LONG
        row = [1]
        for _ in range(LONG):
            row.append(sum(row[-8:]))
        many = row[LONG]
        self.assertEqual(count_readings(stock, text), many)
        self.assertEqual(self.check_index(stock, text, 0), [0] * LONG)
        self.assertEqual(self.check_index(stock, text, many - 1), [7] * (LONG // 8))
        self.check_index(stock, text, many // 3)
        self.check_index(stock, text, many * 5 // 7)
        self.check_error(InvalidNumber, many, nth_reading, stock, text, many)

    def test_readings_of_400_long_words(self):
        stock = Stock(["abababab", "ab", "abab", "a", "b"])
        reading = [0] * 400
        index = reading_index(stock, reading)
        self.assertEqual(index, 0)
        self.assertEqual(nth_reading(stock, "ab" * 1600, index), reading)
        last = [3, 4] * 1600
        self.assertEqual(reading_index(stock, last), count_readings(stock, "ab" * 1600) - 1)
        self.assertEqual(reading_index(Stock(["abcdefgh"]), [0] * 400), 0)

    def test_long_texts_read_in_one_way(self):
        stock, text = Stock(["b", "ab"]), "abb" * 1066 + "ab"
        self.assertEqual(len(text), LONG)
        self.assertEqual(count_readings(stock, text), 1)
        self.assertEqual(nth_reading(stock, text, 0), [1, 0] * 1066 + [1])

    def test_long_texts_without_a_reading(self):
        for stock in (Stock(["a", "aa"]), Stock(POWERS)):
            for text in ("a" * (LONG - 1) + "b", "b" + "a" * (LONG - 1), "a" * 1600 + "b" * 1600):
                self.assertEqual(count_readings(stock, text), 0)
                self.assertIs(is_text(stock, text), False)
                self.check_error(InvalidNumber, 0, nth_reading, stock, text, 0)

    def test_indices_out_of_reach(self):
        stock, text = Stock(["a", "aa"]), "a" * LONG
        many = fibonacci(LONG)[LONG]
        for index in (many, many + 1, many * 2, -1, -many, -HUGE):
            self.check_error(InvalidNumber, index, nth_reading, stock, text, index)


class ErrorTest(ReadingsCase):
    TEXTS = [
        "A", "aA", "aBa", " ", "a ", " a", "a\n", "\n", "a\ta", "a-a", "1", "a1", "`", "{", "\0",
        "\u00e4", "a\u00e4", "\u00df", "\u00aa", "\u0430", "\uff41", "\ud800", "a" * 3199 + "%",
    ]

    def test_other_signs_than_letters(self):
        for words in (["a"], ["a", "aa"], ["b", "ab"]):
            stock = Stock(words)
            for text in self.TEXTS:
                with self.subTest(words=words, text=text[-8:]):
                    self.check_error(InvalidText, text, count_readings, stock, text)
                    self.check_error(InvalidText, text, is_text, stock, text)
                    self.check_error(InvalidText, text, nth_reading, stock, text, 0)

    def test_the_text_ahead_of_the_index(self):
        stock = Stock(["a", "aa"])
        for text in self.TEXTS:
            for index in (-1, 1, 100, HUGE, -HUGE):
                self.check_error(InvalidText, text, nth_reading, stock, text, index)

    def test_negative_and_too_great_indices(self):
        stock = Stock(["a", "ab", "ba"])
        for index in (-HUGE, -3, -2, -1, 2, 3, HUGE):
            self.check_error(InvalidNumber, index, nth_reading, stock, "aba", index)
        for index in (-HUGE, -1, 0, 1, HUGE):
            self.check_error(InvalidNumber, index, nth_reading, stock, "bb", index)

    def test_numbers_that_no_word_has(self):
        stock = Stock(["a", "ab", "ba"])
        for number in (3, 4, HUGE, -1, -3, -4, -HUGE):
            for reading in ([number], [0, number], [number, 1], [2, 1, number, 0]):
                self.check_error(InvalidReading, number, reading_index, stock, reading)
        self.check_error(InvalidReading, 5, reading_index, stock, [0, 5, -1, 3])
        self.check_error(InvalidReading, -1, reading_index, stock, [2, -1, 5])
        reading = [0, 3, 1]
        self.check_error(InvalidReading, 3, reading_index, stock, reading)
        self.assertEqual(reading, [0, 3, 1])
        self.assertEqual(stock.words, ["a", "ab", "ba"])


class NameTest(ReadingsCase):
    def test_arguments_by_name(self):
        stock = Stock(["a", "ab", "ba"])
        self.assertEqual(count_readings(text="aba", stock=stock), 2)
        self.assertEqual(nth_reading(index=1, text="aba", stock=stock), [1, 0])
        self.assertEqual(nth_reading(stock, "aba", index=1), [1, 0])
        self.assertEqual(reading_index(reading=[1, 0], stock=stock), 1)
        self.assertIs(is_text(text="bab", stock=stock), False)
        self.assertIs(is_text(text="baab", stock=stock), True)

    def test_errors_by_name(self):
        stock = Stock(["a"])
        self.check_error(InvalidText, "A", count_readings, text="A", stock=stock)
        self.check_error(InvalidText, "A", is_text, text="A", stock=stock)
        self.check_error(InvalidText, "A", nth_reading, index=5, text="A", stock=stock)
        self.check_error(InvalidNumber, 5, nth_reading, index=5, text="a", stock=stock)
        self.check_error(InvalidReading, 1, reading_index, reading=[1], stock=stock)

    def test_all_are_defined_in_the_file_that_lists_them(self):
        for name in ("count_readings", "nth_reading", "reading_index", "is_text"):
            self.assertEqual(getattr(readings, name).__module__, "wordhulls.readings", name)


if __name__ == "__main__":
    unittest.main()
