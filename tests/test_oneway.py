"""Points 2, 3, 5 and 6: reading in one way, rests, and rows that go together."""

import itertools
import unittest

from brute import (
    EIGHT_POWERS, PlainCase, all_readings, least_twofold, most_alike, one_way, shortlex, small_rows, some_rows,
)
from hard import HARD, LONG_AGREEMENT, LONG_RINGS, LONG_TEXTS, MANY_RESTS
from wordhulls import oneway
from wordhulls.errors import NotOneWay
from wordhulls.oneway import (
    agree_most, are_endless, check_one_way, endless_rows, is_one_way, rests, two_readings,
)
from wordhulls.readings import count_readings, nth_reading
from wordhulls.stocks import Stock, joined

HUGE = 10 ** 400
SAMPLE = some_rows(5, 150, 8, 8) + some_rows(6, 60, 8, 8, "abc") + some_rows(7, 100, 5, 4) + some_rows(8, 60, 8, 3)


def steps_to_rests(words):
    """The rests by the words of the document, again and again over all of them."""
    found = {
        other[len(one):] for one in words for other in words if one != other and other.startswith(one)
    }
    many = -1
    while many != len(found):
        many = len(found)
        for rest in sorted(found):
            for word in words:
                if rest != word and word.startswith(rest):
                    found.add(word[len(rest):])
                if rest != word and rest.startswith(word):
                    found.add(rest[len(word):])
    return sorted(found)


def endless_letters(words, row, most):
    """The first letters of the endless text of a row, word for word."""
    begin, ring = row
    text = "".join([words[number] for number in begin])
    while len(text) < most:
        text += "".join([words[number] for number in ring])
    return text[:most]


class OnewayCase(PlainCase):
    def check_rows(self, words, value):
        """Checks by hand what are_endless says of a value."""
        self.assertIs(type(value), tuple)
        self.assertEqual(len(value), 2)
        for row in value:
            self.assertIs(type(row), tuple)
            self.assertEqual([type(part) for part in row], [list, list])
            self.assertEqual(len(row), 2)
            for number in row[0] + row[1]:
                self.assertIs(type(number), int)
                self.assertIn(number, range(len(words)))
            self.assertGreater(len(row[1]), 0)
        one, other = value
        self.assertNotEqual((one[0] + one[1])[0], (other[0] + other[1])[0])
        most = 2000
        self.assertEqual(endless_letters(words, one, most), endless_letters(words, other, most))
        lists = [part for row in value for part in row]
        for place, part in enumerate(lists):
            for later in lists[:place]:
                self.assertIsNot(part, later)


class RestsTest(OnewayCase):
    def check(self, words, wanted):
        self.assertEqual(rests(Stock(words)), wanted)

    def test_ordinary_stocks(self):
        self.check(["a", "ab", "ba"], ["a", "b"])
        self.check(["a", "ab", "bb"], ["b"])
        self.check(["a", "abc"], ["bc"])
        self.check(["aa", "aaa"], ["a", "aa"])
        self.check(["aaaaa", "aaaaaaaa"], ["a" * many for many in range(1, 8)])
        self.check(["abc", "ab", "cd", "d"], ["c", "d"])

    def test_no_rests(self):
        for words in (["a"], ["abababab"], ["aaaaaaaa"], ["a", "b"], ["ab", "aa", "b"], ["ba", "ca", "a"]):
            self.check(words, [])

    def test_a_rest_and_a_like_word_lead_to_nothing(self):
        self.check(["a", "ab", "b"], ["b"])
        self.check(["a", "aa"], ["a"])

    def test_against_steps(self):
        for words in list(small_rows(3, 3)) + SAMPLE + HARD:
            with self.subTest(words=words):
                told = rests(Stock(words))
                self.assertIs(type(told), list)
                self.assertEqual(told, steps_to_rests(words))
                self.assertEqual(rests(Stock(words[::-1])), told)

    def test_many_rests(self):
        for words in MANY_RESTS:
            self.assertGreater(len(rests(Stock(words))), 40)


class OneWayTest(OnewayCase):
    def check(self, words, wanted):
        stock = Stock(words)
        self.assertIs(is_one_way(stock), wanted)
        self.assertIs(two_readings(stock) is None, wanted)

    def test_ordinary_stocks(self):
        for words in (
            ["a"], ["abab"], ["a", "b"], ["a", "ba"], ["a", "ab"], ["a", "ab", "bb"], ["aa", "ab", "b"],
            ["a", "abb", "bba"][:2], ["ab", "abb", "baab"], ["aab", "ab", "b"], ["abc", "ab", "cd"],
        ):
            self.check(words, True)
        for words in (
            ["a", "aa"], ["aa", "aaa"], ["a", "ab", "b"], ["a", "ab", "ba"], ["abc", "ab", "cd", "d"],
            ["a", "b", "ab", "ba"], EIGHT_POWERS, ["ab", "abba", "baab", "b"],
        ):
            self.check(words, False)

    def test_against_all_texts(self):
        for words in small_rows(3, 3):
            with self.subTest(words=words):
                self.check_against_texts(words, 10)

    def test_against_all_texts_of_other_stocks(self):
        for words in some_rows(9, 60, 4, 5) + some_rows(10, 60, 5, 3, "abc"):
            with self.subTest(words=words):
                self.check_against_texts(words, 8)

    def check_against_texts(self, words, most):
        """Compares with the texts of at most so many letters, and longer ones with another way."""
        stock = Stock(words)
        readings = all_readings(words, most)
        twofold = [text for text in readings if len(readings[text]) > 1]
        told = two_readings(stock)
        self.assertIs(is_one_way(stock), told is None)
        self.assertIs(one_way(tuple(words)), told is None)
        if twofold:
            least = min(twofold, key=shortlex)
            self.assertEqual(told, (least, readings[least][0], readings[least][1]))
        elif told is not None:
            self.assertGreater(len(told[0]), most)
            self.check_told(words, told)
        else:
            self.assertIsNone(least_twofold(words, 40))

    def check_told(self, words, told):
        """Checks a told text and its readings by another way to find them."""
        stock = Stock(words)
        self.assertIs(type(told), tuple)
        text, first, second = told
        self.assertEqual([type(part) for part in told], [str, list, list])
        self.assertEqual(text, least_twofold(words, 400))
        self.assertEqual([joined(stock, first), joined(stock, second)], [text, text])
        self.assertNotEqual(first, second)
        self.assertGreater(count_readings(stock, text), 1)
        self.assertEqual([first, second], [nth_reading(stock, text, index) for index in (0, 1)])

    def test_other_stocks(self):
        some = [0, 0]
        for words in SAMPLE + HARD:
            with self.subTest(words=words):
                told = two_readings(Stock(words))
                some[told is None] += 1
                self.check(words, one_way(tuple(words)))
                self.check([word[::-1] for word in words], told is None)
                if told is not None:
                    self.check_told(words, told)
        self.assertGreater(min(some), 50)

    def test_long_texts(self):
        self.assertEqual([len(two_readings(Stock(words))[0]) for words in LONG_TEXTS], [88, 83, 46, 15])

    def test_powers_of_a_letter(self):
        for one, other in itertools.permutations(range(1, 9), 2):
            stock = Stock(["a" * one, "a" * other])
            if other % one == 0:
                wanted = ("a" * other, [0] * (other // one), [1])
            elif one % other == 0:
                wanted = ("a" * one, [0], [1] * (one // other))
            else:
                wanted = ("a" * (one + other), [0, 1], [1, 0])
            self.assertEqual(two_readings(stock), wanted)
            self.assertIs(is_one_way(stock), False)

    def test_the_first_two_of_many_readings(self):
        self.assertEqual(two_readings(Stock(EIGHT_POWERS)), ("aa", [0, 0], [1]))
        self.assertEqual(two_readings(Stock(EIGHT_POWERS[::-1])), ("aa", [6], [7, 7]))
        self.assertEqual(two_readings(Stock(["abc", "ab", "a", "bc", "c"])), ("abc", [0], [1, 4]))
        self.assertEqual(two_readings(Stock(["c", "bc", "a", "ab", "abc"])), ("abc", [2, 1], [3, 0]))
        self.assertEqual(two_readings(Stock(["ab", "c", "abc", "a", "bc"])), ("abc", [0, 1], [2]))

    def test_the_least_of_texts_that_are_as_long(self):
        self.assertEqual(two_readings(Stock(["b", "bb", "a", "aa"])), ("aa", [2, 2], [3]))
        self.assertEqual(two_readings(Stock(["ba", "b", "a", "ab"])), ("ab", [2, 1], [3]))
        self.assertEqual(two_readings(Stock(["b", "bc", "cb", "c", "za", "z", "a"])), ("bc", [0, 3], [1]))
        # A shorter text goes ahead of one that is less by the alphabet.
        self.assertEqual(two_readings(Stock(["ab", "aba", "bab", "z", "zz"])), ("zz", [3, 3], [4]))

    def test_the_one_way_check(self):
        for words in SAMPLE + HARD:
            stock = Stock(words)
            told = two_readings(stock)
            if told is None:
                self.assertIsNone(check_one_way(stock))
            else:
                self.check_error(NotOneWay, told[0], check_one_way, stock)


class AgreeTest(OnewayCase):
    def check(self, words, wanted):
        told = agree_most(Stock(words))
        self.assertEqual(told, wanted)
        self.assertIs(type(told), type(wanted))

    def test_ordinary_stocks(self):
        self.check(["a", "abc"], 1)
        self.check(["abc", "abd"], 2)
        self.check(["abc", "abd", "b"], 2)
        self.check(["a", "b"], 0)
        self.check(["abc", "ab", "cd"], 3)
        self.check(["ab", "abcc", "cd"], 3)
        self.check(["a", "abbbc", "bbd"], 3)
        self.check(["abcdefgh", "abcdefgg"], 7)

    def test_one_word(self):
        for word in ("a", "abab", "aaaaaaaa"):
            self.check([word], 0)

    def test_no_greatest_number(self):
        self.check(["a", "ab", "bb"], None)
        self.check(["a", "ab", "ba"], None)
        self.check(["a", "aa"], None)
        # Its rests lead to no ring, but two readings of a text can go on alike.
        self.check(["a", "ab", "b"], None)
        self.check(["abc", "ab", "cd", "d"], None)
        self.check(EIGHT_POWERS, None)

    def test_against_all_pairs_of_texts(self):
        for words in small_rows(3, 3):
            with self.subTest(words=words):
                self.check_against_pairs(words, 3, 10)

    def test_against_pairs_of_texts_of_other_stocks(self):
        for words in some_rows(11, 80, 3, 5) + some_rows(12, 60, 4, 4, "abc"):
            with self.subTest(words=words):
                self.check_against_pairs(words, 5, 12)

    def check_against_pairs(self, words, longest, most):
        """Two texts are alike for some letters if they are before their last words end."""
        told = agree_most(Stock(words))
        if told is None:
            self.assertGreater(most_alike(words, most), most - longest)
        else:
            self.assertEqual(most_alike(words, max(most, told + longest)), told)

    def test_the_sequence_changes_nothing(self):
        for words in SAMPLE + HARD:
            self.assertEqual(agree_most(Stock(words)), agree_most(Stock(sorted(words))))

    def test_long_agreement(self):
        for words in LONG_AGREEMENT + [words for words in SAMPLE if agree_most(Stock(words)) is not None]:
            self.assertEqual(self.alike_by_lengths(words), agree_most(Stock(words)))
        self.assertEqual([agree_most(Stock(words)) for words in LONG_AGREEMENT], [81, 49])

    def alike_by_lengths(self, words):
        """The most letters that are alike, over pairs of begun words and how many letters lie behind."""
        most, ahead, seen = 0, [], set()
        for one, other in itertools.combinations(words, 2):
            ahead.append((0, one, other))
        while ahead:
            length, one, other = ahead.pop()
            most = max(most, length)
            if (length, one, other) in seen:
                continue
            seen.add((length, one, other))
            if one == "" or other == "":
                ahead.extend([(length, one or word, other or word) for word in words])
            elif one[0] == other[0]:
                ahead.append((length + 1, one[1:], other[1:]))
        return most


class EndlessRowsTest(OnewayCase):
    def test_against_agree_most(self):
        some = [0, 0]
        for words in list(small_rows(3, 3)) + SAMPLE + HARD:
            with self.subTest(words=words):
                stock = Stock(words)
                told = endless_rows(stock)
                self.assertIs(told is None, agree_most(stock) is not None)
                some[told is None] += 1
                if told is not None:
                    self.check_rows(words, told)
                    self.assertIs(are_endless(stock, told), True)
                    self.assertIs(are_endless(stock, told[::-1]), True)
        self.assertGreater(min(some), 50)

    def test_no_rows(self):
        for words in (["a"], ["abab"], ["a", "b"], ["a", "abc"], ["abc", "ab", "cd"]):
            self.assertIsNone(endless_rows(Stock(words)))

    def test_rows_that_change_places(self):
        # What is behind is ahead after one turn of the rests, and behind again after two.
        for words in (["a", "ab", "bb"], ["ab", "abb", "ba"], ["b", "ba", "aa"], ["a", "abb", "bbb"]):
            told = endless_rows(Stock(words))
            self.check_rows(words, told)
            self.assertIs(are_endless(Stock(words), told), True)

    def test_long_rings(self):
        for words in LONG_RINGS:
            told = endless_rows(Stock(words))
            self.check_rows(words, told)
            self.assertIs(is_one_way(Stock(words)), True)
            self.assertGreater(len(told[0][1]) + len(told[1][1]), 20)


class AreEndlessTest(OnewayCase):
    def check(self, words, value, wanted):
        told = are_endless(Stock(words), value)
        self.assertIs(told, wanted)

    def test_right_values(self):
        words = ["a", "ab", "bb"]
        for value in (
            (([0], [2]), ([1], [2])),
            (([1], [2]), ([0], [2])),
            (([0, 2], [2, 2]), ([1], [2, 2, 2])),
            (([0] + [2] * 40, [2]), ([1], [2] * 70)),
        ):
            self.check(words, value, True)
        self.check(["a", "ab", "ba"], (([], [0, 2]), ([], [1, 0])), True)
        self.check(["a", "ab", "ba"], (([0], [2]), ([1], [1])), True)
        self.check(["a", "ab", "ba"], (([0], [2]), ([], [1])), True)
        self.check(["a", "aa"], (([], [0]), ([], [1])), True)
        self.check(["a", "aa"], (([], [0] * 399), ([1], [0] * 400)), True)
        self.check(["aaaaaaa", "aaaaaaaa"], (([], [0]), ([], [1])), True)
        self.check(["aaaaaaa", "aaaaaaaa"], (([0] * 400, [1] * 400), ([1] * 400, [0, 1] * 200)), True)

    def test_texts_that_part_late(self):
        words = ["aaaaaaa", "aaaaaaaa", "b"]
        self.check(words, (([0] * 8, [2]), ([1] * 7, [2])), True)
        self.check(words, (([0] * 8, [2]), ([1] * 7, [2, 2, 2])), True)
        self.check(words, (([0] * 9, [2]), ([1] * 7, [2])), False)
        self.check(words, (([0] * 8 + [2] * 9, [2]), ([1] * 7, [2] * 10 + [0])), False)
        self.check(words, (([0] * 399 + [2], [0]), ([1] * 349, [0])), False)
        self.check(words, (([0], [0] * 399 + [2]), ([1], [1] * 349 + [2])), False)
        self.check(["a", "aa", "aab"], (([], [0] * 40 + [2]), ([], [1] * 20 + [2])), True)
        self.check(["a", "aa", "aab"], (([], [0] * 41 + [2]), ([], [1] * 20 + [2])), False)
        # One row is still at its begin where the other one has been through its ring again and again.
        self.check(["a", "aa", "b"], (([0] * 40, [2]), ([], [1])), False)
        self.check(["a", "aa", "b"], (([], [1]), ([0] * 400, [2])), False)
        self.check(["a", "aa", "b"], (([], [1]), ([0] * 400, [0])), True)
        self.check(["a", "aa", "b"], (([], [0, 0, 2]), ([1], [2, 1])), True)
        self.check(["a", "aa", "b"], (([], [0, 0, 2, 0, 0, 2]), ([1], [2, 1, 2, 1, 2, 0])), False)

    def test_one_thing_changed(self):
        words = ["a", "ab", "bb"]
        for value in (
            # An empty ring.
            (([0], []), ([1], [2])),
            (([0], [2]), ([1], [])),
            (([0], []), ([1], [])),
            (([], []), ([], [])),
            # Like first words.
            (([0], [2]), ([0], [2])),
            (([1], [2]), ([1], [2])),
            (([], [2]), ([2], [2])),
            (([], [2]), ([], [2])),
            # Numbers that no word has.
            (([3], [2]), ([1], [2])),
            (([0], [3]), ([1], [2])),
            (([0], [2]), ([-2], [2])),
            (([0], [-1]), ([1], [2])),
            (([-3], [2]), ([1], [2])),
            (([0], [2]), ([1], [2, HUGE])),
            (([0], [2]), ([1], [-HUGE])),
            # Texts that part.
            (([0], [2]), ([1], [2, 0])),
            (([0], [1]), ([1], [2])),
            (([0, 2], [2]), ([1], [1])),
            (([0], [2]), ([2], [2])),
        ):
            with self.subTest(value=value):
                self.check(words, value, False)

    def test_true_and_false_are_no_numbers(self):
        words = ["a", "ab", "bb"]
        self.check(["bb", "a", "ab"], (([1], [0]), ([2], [0])), True)
        for value in (
            (([True], [0]), ([2], [0])),
            (([1], [False]), ([2], [0])),
            (([1], [0]), ([2], [False])),
            (([1], [0]), ([2], [0, False])),
            (([1, False], [0]), ([2], [0])),
            (([1, 0, False], [0, 0]), ([2], [0])),
        ):
            self.check(["bb", "a", "ab"], value, False)
        self.check(words, (([False], [2]), ([1], [2])), False)
        self.check(words, (([0], [2]), ([True], [2])), False)

    def test_lists_and_tuples(self):
        for value in (
            [([0], [2]), ([1], [2])],
            ([[0], [2]], ([1], [2])),
            (([0], [2]), [[1], [2]]),
            (((0,), [2]), ([1], [2])),
            (([0], (2,)), ([1], [2])),
            (([0], [2]), ((1,), [2])),
            (([0], [2]), ([1], (2,))),
            (([0], [2]), (1, [2])),
            (([0], 2), ([1], [2])),
            ((([0]), [2]), ([1], ([2],))),
            (([[0]], [2]), ([1], [2])),
            (([0], [[2]]), ([1], [2])),
            (([(0,)], [2]), ([1], [2])),
            # Too few things, or too many.
            (([0], [2]),),
            (([0], [2]), ([1], [2]), ([1], [2])),
            (([0], [2], []), ([1], [2])),
            (([0], [2]), ([1],)),
            (([0],), ([1], [2])),
            ((), ()),
            ((), ([1], [2])),
            (([0], [2]), ()),
            ([0], [2], [1], [2]),
            ([0], [2]),
        ):
            with self.subTest(value=value):
                self.check(["a", "ab", "bb"], value, False)

    def test_values_of_other_kinds(self):
        class Odd:
            def __eq__(self, other):
                raise RuntimeError("compared")

            def __bool__(self):
                raise RuntimeError("asked")

        class Equal:
            def __eq__(self, other):
                return True

            def __len__(self):
                return 2

            def __iter__(self):
                return iter((([0], [2]), ([1], [2])))

        deep = []
        for _ in range(38):
            deep = [deep]
        values = [
            None, True, False, 0, 1, 2, -1, HUGE, "", "a", "ab", b"", b"ab", [], (), {}, set(), frozenset(),
            {1, 2}, {0: [2], 1: [2]}, range(2), object(), Odd(), Equal(), Stock(["a"]), Stock, int, len, deep,
            iter([]), ValueError("a"), NotOneWay("a"), "\ud800", "02", ["0", "2"], bytearray(b"ab"), ...,
        ]
        words = ["a", "ab", "bb"]
        for odd in values:
            for value in (
                odd, (odd, odd), (odd, ([1], [2])), (([0], [2]), odd), ((odd, [2]), ([1], [2])),
                (([0], odd), ([1], [2])), (([0], [2]), (odd, [2])), (([0], [2]), ([1], odd)),
                (([3, odd], [2]), ([1], [2])), (([0], [2]), ([1], [2, odd, 7])),
            ):
                self.check(words, value, False)

    def test_numbers_of_words_that_no_word_has(self):
        self.check(["a"], (([], [0]), ([], [0])), False)
        self.check(["a"], (([], [0]), ([], [1])), False)
        self.check(["a", "b"], (([], [0]), ([], [1])), False)

    def test_no_value_is_changed(self):
        stock = Stock(["a", "ab", "bb"])
        for value in ((([0], [2]), ([1], [2])), (([0], []), ([1], [7])), (([0, 2], [True]), [[1], [2]])):
            before = repr(value)
            are_endless(stock, value)
            self.assertEqual(repr(value), before)
        self.assertEqual(stock.words, ["a", "ab", "bb"])


class CallTest(OnewayCase):
    def test_by_name(self):
        stock = Stock(["a", "ab", "ba"])
        self.assertEqual(rests(stock=stock), ["a", "b"])
        self.assertIs(is_one_way(stock=stock), False)
        self.assertEqual(two_readings(stock=stock), ("aba", [0, 2], [1, 0]))
        self.assertIsNone(agree_most(stock=stock))
        value = endless_rows(stock=stock)
        self.assertIs(are_endless(value=value, stock=stock), True)
        self.assertIs(are_endless(stock, value=value), True)

    def test_lists_are_new(self):
        for words in (["a", "ab", "ba"], ["a", "ab", "bb"], EIGHT_POWERS):
            stock = Stock(words)
            for function in (rests, two_readings, endless_rows):
                before = repr(function(stock))
                self.change(function(stock))
                self.assertEqual(repr(function(stock)), before)
                self.assertEqual(repr(function(Stock(words))), before)
            self.assertEqual(stock.words, words)
            self.assertEqual(stock, Stock(words))

    def change(self, value):
        """Changes each list in a value."""
        if isinstance(value, tuple):
            for part in value:
                self.change(part)
        if isinstance(value, list):
            value.append("changed")
            value.reverse()

    def test_all_are_defined_in_the_file_that_lists_them(self):
        for name in ("rests", "is_one_way", "two_readings", "agree_most", "endless_rows", "are_endless"):
            self.assertEqual(getattr(oneway, name).__module__, "wordhulls.oneway", name)


if __name__ == "__main__":
    unittest.main()
