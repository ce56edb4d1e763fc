"""Points 2 to 6: how much room words leave, what fills it, and what is part of no text."""

import fractions
import unittest

from brute import (
    EIGHT_POWERS, PlainCase, all_strings, all_texts, is_from_left, one_way, shortlex, small_rows, some_rows,
)
from hard import HARD
from wordhulls import rooms
from wordhulls.errors import InvalidNumber, InvalidText, NotApart, NotOneWay
from wordhulls.oneway import two_readings
from wordhulls.rooms import filling, is_full, is_part, lost_word, room
from wordhulls.stocks import Stock

HUGE = 10 ** 400
LETTERS = "abcdefghijklmnopqrstuvwxyz"
LARGE_ROWS = some_rows(91, 150, 8, 8) + some_rows(92, 80, 8, 8, "abc") + some_rows(93, 40, 8, 8, LETTERS)
# With so many letters no call is right, whatever the words.
NO_LETTERS = (0, -1, -26, 27, 28, 400, HUGE, -HUGE)
OTHER_TEXTS = [
    "A", "aA", " ", "a ", " a", "a\n", "\n", "a\ta", "a-a", "1", "a1", "`", "{", "\0", "\u00e4", "a\u00e4",
    "\u0430", "\uff41", "\ud800", "a" * 399 + "A",
]


def letters_of(words):
    """The least number of letters that has all letters of the words."""
    return max([LETTERS.index(sign) for word in words for sign in word]) + 1


def plain_room(words, letters):
    told = sum([fractions.Fraction(1, letters ** len(word)) for word in words])
    return told.numerator, told.denominator


def plain_filling(words, letters):
    """The filling, of all strings up to a letter more than the longest word."""
    most = max([len(word) for word in words]) + 1
    apart = [
        text
        for text in all_strings(LETTERS[:letters], most)
        if not any(text.startswith(word) or word.startswith(text) for word in words)
    ]
    return sorted(text for text in apart if not any(text[:end] in apart for end in range(len(text))))


def plain_parts(words, most):
    """All strings of at most so many letters that are part of a text, from texts that surely are long enough."""
    found = {""}
    for text in all_texts(words, most + 2 * max([len(word) for word in words])):
        for start in range(len(text)):
            found.update(text[start:start + length] for length in range(1, most + 1))
    return found


class RoomTest(PlainCase):
    def check_room(self, words, letters):
        told = room(Stock(words), letters)
        self.assertEqual(told, plain_room(words, letters))
        self.assertIs(type(told), tuple)
        self.assertEqual([type(part) for part in told], [int, int])

    def test_against_the_sum_of_fractions(self):
        for words in list(small_rows(3, 3)) + LARGE_ROWS + HARD:
            for letters in sorted({letters_of(words), letters_of(words) + 1, 6, 10, 25, 26}):
                if letters_of(words) <= letters <= 26:
                    self.check_room(words, letters)

    def test_all_numbers_of_letters(self):
        for words in (["a"], ["aa", "aaa"], EIGHT_POWERS, ["aaaaaaaa"]):
            for letters in range(1, 27):
                self.check_room(words, letters)
        self.check_room(["z", "y", "zz", "abcdefgh"], 26)

    def test_some_rooms(self):
        self.assertEqual(room(Stock(["a", "ba"]), 2), (3, 4))
        self.assertEqual(room(Stock(["a", "b"]), 2), (1, 1))
        self.assertEqual(room(Stock(["a", "b", "ab", "ba"]), 2), (3, 2))
        self.assertEqual(room(Stock(["a", "aa"]), 1), (2, 1))
        self.assertEqual(room(Stock(["abcdefgh"]), 26), (1, 26 ** 8))
        self.assertEqual(room(Stock(["aa", "ab", "ac"]), 3), (1, 3))

    def test_letters_check(self):
        for words in (["a"], ["a", "ba"], ["z"], EIGHT_POWERS):
            for letters in NO_LETTERS:
                self.check_error(InvalidNumber, letters, room, Stock(words), letters)
        for words in LARGE_ROWS + [["a", "b", "az"], ["y"]]:
            for letters in range(1, letters_of(words)):
                self.check_error(InvalidNumber, letters, room, Stock(words), letters)


class FullTest(PlainCase):
    def test_against_the_sum_of_fractions(self):
        many = 0
        for words in list(small_rows(4, 3)) + list(small_rows(3, 2, "abc")):
            if one_way(tuple(words)):
                for letters in range(letters_of(words), 4):
                    full = is_full(Stock(words), letters)
                    self.assertIs(full, plain_room(words, letters) == (1, 1))
                    many += full
        self.assertGreater(many, 15)

    def test_some_stocks(self):
        for words, letters in (
            (["a"], 1), (["a", "b"], 2), (["a", "ab", "bb"], 2), (["c", "b", "a"], 3), (["a", "ba", "bba", "bbb"], 2),
            (["aa", "ab", "ba", "bb"], 2), (["a", "ba", "bba", "bbba", "bbbba", "bbbbba", "bbbbbba", "bbbbbbb"], 2),
        ):
            self.assertIs(is_full(Stock(words), letters), True)
            self.assertIs(is_full(Stock(words), letters + 1), False)
        self.assertIs(is_full(Stock(["a", "ba"]), 2), False)
        self.assertIs(is_full(Stock(["aaaaaaaa"]), 1), True)

    def test_letters_then_one_way(self):
        for words in (["a", "aa"], ["a", "ab", "ba"], ["b", "abc", "ab", "cd", "d"], EIGHT_POWERS, ["a", "b", "ab"]):
            stock = Stock(words)
            text = two_readings(stock)[0]
            for letters in range(letters_of(words), 27):
                self.check_error(NotOneWay, text, is_full, stock, letters)
            for letters in list(NO_LETTERS) + list(range(1, letters_of(words))):
                self.check_error(InvalidNumber, letters, is_full, stock, letters)
        for words in LARGE_ROWS + HARD:
            found = two_readings(Stock(words))
            if found is not None:
                self.check_error(NotOneWay, found[0], is_full, Stock(words), letters_of(words))

    def test_letters_check(self):
        for words in (["a"], ["a", "ba"], ["z"]):
            for letters in list(NO_LETTERS) + list(range(1, letters_of(words))):
                self.check_error(InvalidNumber, letters, is_full, Stock(words), letters)


class FillingTest(PlainCase):
    def check_filling(self, words, letters):
        told = filling(Stock(words), letters)
        self.assertEqual(told, plain_filling(words, letters))
        # Words and filling together leave no room.
        self.assertEqual(plain_room(words + told, letters), (1, 1))
        if is_full(Stock(words), letters):
            self.assertEqual(told, [])

    def test_against_all_strings(self):
        for words in list(small_rows(3, 3)) + some_rows(94, 300, 6, 4) + some_rows(95, 100, 5, 3, "abc"):
            if is_from_left(words):
                for letters in range(letters_of(words), 4):
                    with self.subTest(words=words, letters=letters):
                        self.check_filling(words, letters)

    def test_long_words(self):
        for words in (["abababab"], ["aaaaaaaa", "bbbbbbbb"], ["aaaaaaab", "aaaaaaaa", "ab"], ["bbabbabb", "a", "bbb"]):
            self.check_filling(words, 2)

    def test_some_stocks(self):
        for words, letters, wanted in (
            (["a", "ba"], 2, ["bb"]), (["a", "b"], 2, []), (["a"], 1, []), (["a"], 3, ["b", "c"]), (["aa"], 1, []),
            (["aaaaaaaa"], 1, []), (["b"], 2, ["a"]), (["ba", "aa"], 2, ["ab", "bb"]),
            (["ab"], 3, ["aa", "ac", "b", "c"]),
        ):
            self.assertEqual(filling(Stock(words), letters), wanted)

    def test_not_apart(self):
        for words, pair in (
            (["a", "ab"], ("a", "ab")), (["ab", "a"], ("a", "ab")), (["b", "ab", "a"], ("a", "ab")),
            (["aba", "b", "ab", "ba", "a"], ("b", "ba")), (["abb", "ab", "a", "b"], ("ab", "abb")),
            (["ab", "abb", "aba", "a"], ("ab", "abb")), (["aab", "a", "aa"], ("a", "aab")),
            (["bb", "aa", "a", "b"], ("a", "aa")), (["ab", "a", "b", "ba"], ("a", "ab")), (EIGHT_POWERS, ("a", "aa")),
            (EIGHT_POWERS[::-1], ("aaaaaaa", "aaaaaaaa")),
        ):
            for letters in (2, 3):
                self.check_error(NotApart, pair, filling, Stock(words), letters)

    def test_not_apart_by_the_numbers_of_both(self):
        for words in some_rows(96, 200, 8, 4) + LARGE_ROWS:
            if not is_from_left(words):
                _, pair = min(
                    ([one, other], (words[one], words[other]))
                    for one in range(len(words))
                    for other in range(len(words))
                    if one != other and words[other].startswith(words[one])
                )
                self.check_error(NotApart, pair, filling, Stock(words), letters_of(words))

    def test_letters_then_apart(self):
        for words in (["a"], ["a", "ba"], ["a", "ab"], ["c", "ca", "b"], ["z", "zz"]):
            for letters in list(NO_LETTERS) + list(range(1, letters_of(words))):
                self.check_error(InvalidNumber, letters, filling, Stock(words), letters)


class PartTest(PlainCase):
    def test_against_all_texts_of_some_words(self):
        for words in list(small_rows(2, 2)) + some_rows(97, 60, 3, 4) + some_rows(98, 30, 3, 3, "abc"):
            most = 4
            parts = plain_parts(words, most)
            stock = Stock(words)
            with self.subTest(words=words):
                for text in all_strings("abc", most):
                    self.assertIs(is_part(stock, text), text in parts, text)

    def test_inside_of_words(self):
        stock = Stock(["abcdefgh"])
        for text in ("", "a", "d", "h", "cde", "fgh", "ha", "fgha", "habcdefgha", "efghabcdefghabc"):
            self.assertIs(is_part(stock, text), True, text)
        for text in ("ac", "ba", "aa", "hb", "habcdefgb", "i"):
            self.assertIs(is_part(stock, text), False, text)

    def test_stocks_not_read_in_one_way(self):
        stock = Stock(["a", "ab", "ba"])
        for text in ("", "bb", "abba", "baab", "bab", "abbaabba"):
            self.assertIs(is_part(stock, text), True, text)
        for text in ("bbb", "abbba", "abbabba", "bbabb", "c", "ac"):
            self.assertIs(is_part(stock, text), False, text)

    def test_long_texts(self):
        self.assertIs(is_part(Stock(EIGHT_POWERS), "a" * 400), True)
        self.assertIs(is_part(Stock(EIGHT_POWERS), "a" * 399 + "b"), False)
        stock = Stock(["a", "ba"])
        self.assertIs(is_part(stock, "ab" * 200), True)
        self.assertIs(is_part(stock, "ab" * 198 + "bbab"), False)
        for words in HARD:
            text = "".join([words[number * number % len(words)] for number in range(60)])[:400]
            self.assertIs(is_part(Stock(words), text[3:]), True)

    def test_text_check(self):
        for words in (["a"], ["a", "ba"], EIGHT_POWERS):
            for text in OTHER_TEXTS:
                self.check_error(InvalidText, text, is_part, Stock(words), text)


class LostTest(PlainCase):
    def check_lost(self, words, letters, most):
        stock = Stock(words)
        parts = plain_parts(words, most)
        lost = [text for text in all_strings(LETTERS[:letters], most, 1) if text not in parts]
        for told in range(most + 1):
            wanted = min([text for text in lost if len(text) <= told], key=shortlex, default=None)
            self.assertEqual(lost_word(stock, letters, told), wanted)

    def test_against_all_strings(self):
        for words in list(small_rows(2, 2)) + some_rows(99, 50, 4, 3):
            with self.subTest(words=words):
                self.check_lost(words, letters_of(words), 4)
        for words in some_rows(100, 20, 5, 2, "abc") + [["a", "b", "cc"], ["ab", "ba", "c"]]:
            with self.subTest(words=words):
                self.check_lost(words, 3, 3)

    def test_against_parts_up_to_eight_letters(self):
        for words in some_rows(101, 30, 8, 4) + [["a", "bb"], ["aa", "b"], ["a", "ab", "bbb"]]:
            stock = Stock(words)
            lost = next((text for text in all_strings("ab", 8, 1) if not is_part(stock, text)), None)
            self.assertEqual(lost_word(stock, 2, 8), lost)
            if lost is not None:
                self.assertEqual(lost_word(stock, 2, len(lost)), lost)
                self.assertIsNone(lost_word(stock, 2, len(lost) - 1))

    def test_some_stocks(self):
        for words, letters, most, wanted in (
            (["a", "ba"], 2, 5, "bb"), (["a", "ba"], 2, 1, None), (["a", "ba"], 2, 2, "bb"), (["a", "ba"], 3, 5, "c"),
            (["a", "ab", "bb"], 2, 8, None), (["a"], 1, 8, None), (["a"], 2, 8, "b"), (["a"], 2, 1, "b"),
            (["a"], 2, 0, None), (["ab"], 2, 8, "aa"), (["a", "b", "c"], 3, 8, None), (["b"], 2, 1, "a"),
            (["ab", "ba"], 2, 8, "aaa"), (["ab", "ba"], 2, 2, None), (["aaaaaaaa", "b"], 2, 8, "bab"),
            (["aaaaaaaa", "b"], 2, 2, None), (["bbbbbbbb", "aaaaaaaa"], 2, 8, "aba"), (["a", "bb"], 2, 8, "aba"),
            (["a", "b"], 26, 8, "c"), (["z"], 26, 8, "a"), (["z"], 26, 0, None),
        ):
            self.assertEqual(lost_word(Stock(words), letters, most), wanted)

    def test_hard_stocks(self):
        for words in HARD + LARGE_ROWS[:200:10]:
            stock = Stock(words)
            for letters in (letters_of(words), 3):
                lost = lost_word(stock, letters, 8)
                if lost is not None:
                    self.assertIs(is_part(stock, lost), False)
                    for text in all_strings(LETTERS[:letters], len(lost), 1):
                        if shortlex(text) < shortlex(lost):
                            self.assertIs(is_part(stock, text), True)

    def test_letters_then_most(self):
        for words in (["a"], ["a", "ba"], ["a", "ab", "ba"], ["c", "b"]):
            stock = Stock(words)
            for letters in list(NO_LETTERS) + list(range(1, letters_of(words))):
                for most in (5, 0, -1, -HUGE):
                    self.check_error(InvalidNumber, letters, lost_word, stock, letters, most)
            for most in (-1, -2, -8, -HUGE):
                self.check_error(InvalidNumber, most, lost_word, stock, 3, most)


class CallTest(PlainCase):
    def test_by_name(self):
        stock = Stock(["a", "ba"])
        self.assertEqual(room(letters=2, stock=stock), (3, 4))
        self.assertIs(is_full(letters=2, stock=stock), False)
        self.assertEqual(filling(letters=2, stock=stock), ["bb"])
        self.assertIs(is_part(text="abab", stock=stock), True)
        self.assertEqual(lost_word(most=5, letters=2, stock=stock), "bb")
        self.assertEqual(lost_word(stock, 3, most=5), "c")
        self.check_error(InvalidNumber, -1, lost_word, most=-1, letters=2, stock=stock)
        self.check_error(InvalidNumber, 1, filling, letters=1, stock=stock)
        self.check_error(InvalidText, "A", is_part, text="A", stock=stock)

    def test_lists_are_new_and_stocks_stay(self):
        words = ["bb", "ab", "aab"]
        stock = Stock(words)

        def answers():
            return (
                room(stock, 2), is_full(stock, 2), filling(stock, 2), is_part(stock, "babb"), lost_word(stock, 2, 8),
            )

        told = answers()
        self.assertEqual(told[2], ["aaa", "ba"])
        for other in (stock, Stock(["a", "b"]), Stock(["aa", "ab", "ba"])):
            rows = [filling(other, 2), filling(other, 3)]
            for row in rows:
                row.append("changed")
                row.reverse()
            self.check_error(InvalidNumber, -1, lost_word, other, 2, -1)
            self.assertEqual(answers(), told)
        self.assertIsNot(filling(stock, 2), filling(stock, 2))
        self.assertEqual(stock.words, words)

    def test_all_are_defined_in_the_file_that_lists_them(self):
        for name in ("room", "is_full", "filling", "lost_word", "is_part"):
            self.assertEqual(getattr(rooms, name).__module__, "wordhulls.rooms", name)


if __name__ == "__main__":
    unittest.main()
