"""Points 2, 5 and 7: the four hulls, the base, and what lies within."""

import itertools
import unittest

from brute import (
    EIGHT_POWERS, PlainCase, all_texts, is_from_both, is_from_left, is_from_right, made, one_way, sets_that_make,
    small_rows, some_rows,
)
from wordhulls import hulls
from wordhulls.hulls import base, both_hull, free_hull, left_hull, lies_within, right_hull
from wordhulls.stocks import Stock

MANNERS = ((free_hull, one_way), (left_hull, is_from_left), (right_hull, is_from_right), (both_hull, is_from_both))
SAMPLE = some_rows(21, 120, 8, 8) + some_rows(22, 60, 8, 8, "abc") + some_rows(23, 80, 5, 4)


def hull_of_sets(words, manner):
    """The set of a manner, of parts of the words, whose texts are all texts of each other one."""
    rows = [row for row in sets_that_make(words) if manner(row)]
    least = [row for row in rows if all(made(other, word) for other in rows for word in row)]
    assert len(least) == 1, (words, least)
    return list(least[0])


class HullTest(PlainCase):
    def check_against_sets(self, words):
        for hull, manner in MANNERS:
            with self.subTest(words=words, hull=hull.__name__):
                self.assertEqual(hull(Stock(words)), hull_of_sets(words, manner))

    def test_ordinary_stocks(self):
        for words, free, left, right, both in (
            (["a", "ab", "ba"], ["a", "b"], ["a", "b"], ["a", "b"], ["a", "b"]),
            (["a", "ab", "bb"], ["a", "ab", "bb"], ["a", "b"], ["a", "ab", "bb"], ["a", "b"]),
            (["bb", "ba", "a"], ["a", "ba", "bb"], ["a", "ba", "bb"], ["a", "b"], ["a", "b"]),
            (["ab", "abb"], ["ab", "abb"], ["ab", "b"], ["ab", "abb"], ["a", "b"]),
            (["b", "a"], ["a", "b"], ["a", "b"], ["a", "b"], ["a", "b"]),
            (["aa", "aaa"], ["a"], ["a"], ["a"], ["a"]),
            (["aaaa", "aaaaaa"], ["aa"], ["aa"], ["aa"], ["aa"]),
            (["abc", "ab", "cd", "d"], ["ab", "c", "d"], ["ab", "c", "d"], ["ab", "c", "d"], ["ab", "c", "d"]),
            (EIGHT_POWERS, ["a"], ["a"], ["a"], ["a"]),
        ):
            with self.subTest(words=words):
                stock = Stock(words)
                self.assertEqual(free_hull(stock), free)
                self.assertEqual(left_hull(stock), left)
                self.assertEqual(right_hull(stock), right)
                self.assertEqual(both_hull(stock), both)

    def test_one_word(self):
        for word in ("a", "abab", "aaaaaaaa", "abcdefgh", "aba"):
            for hull, _ in MANNERS:
                self.assertEqual(hull(Stock([word])), [word])

    def test_against_all_sets_of_parts(self):
        for words in small_rows(2, 3):
            self.check_against_sets(words)

    def test_against_all_sets_of_parts_of_other_stocks(self):
        rows = [words for words in small_rows(3, 3) if len(words) == 3][::9]
        for words in rows + some_rows(24, 12, 2, 4) + some_rows(25, 20, 3, 3, "abc"):
            self.check_against_sets(words)

    def test_what_a_hull_is(self):
        for words in SAMPLE:
            for hull, manner in MANNERS:
                with self.subTest(words=words, hull=hull.__name__):
                    told = hull(Stock(words))
                    self.assertIs(type(told), list)
                    self.assertEqual(told, sorted(told))
                    self.assertIs(manner(tuple(told)), True)
                    self.assertIs(all(made(told, word) for word in words), True)
                    # Each hull is the least one, so that it has none of its words in vain.
                    for word in told:
                        others = [other for other in told if other != word]
                        self.assertIs(all(made(others, other) for other in words), False)

    def test_hulls_within_hulls(self):
        for words in SAMPLE:
            stock = Stock(words)
            free, left, right, both = [hull(stock) for hull, _ in MANNERS]
            for less, more in ((free, left), (free, right), (left, both), (right, both)):
                self.assertIs(lies_within(Stock(less), Stock(more)), True)
            self.assertEqual(both_hull(Stock(left)), both)
            self.assertEqual(both_hull(Stock(right)), both)
            self.assertEqual(left_hull(Stock(free)), left)
            self.assertEqual(right_hull(Stock(free)), right)

    def test_hulls_of_hulls(self):
        for words in SAMPLE:
            for hull, _ in MANNERS:
                told = hull(Stock(words))
                self.assertEqual(hull(Stock(told)), told)
                self.assertEqual(hull(Stock(told[::-1])), told)

    def test_any_sequence(self):
        for words in SAMPLE[:60]:
            for hull, _ in MANNERS:
                told = hull(Stock(words))
                for row in (sorted(words), sorted(words, reverse=True), words[1:] + words[:1]):
                    self.assertEqual(hull(Stock(row)), told)
        for row in itertools.permutations(["a", "ab", "bb", "bba"]):
            self.assertEqual(free_hull(Stock(list(row))), free_hull(Stock(["a", "ab", "bb", "bba"])))

    def test_words_written_backwards(self):
        for words in SAMPLE:
            stock, mirror = Stock(words), Stock([word[::-1] for word in words])
            for hull, other in ((free_hull, free_hull), (left_hull, right_hull), (right_hull, left_hull),
                                (both_hull, both_hull)):
                self.assertEqual(other(mirror), sorted([word[::-1] for word in hull(stock)]))

    def test_hulls_as_the_stock_is_if_it_is_of_the_manner(self):
        for words in SAMPLE:
            for hull, manner in MANNERS:
                self.assertIs(hull(Stock(words)) == sorted(words), manner(tuple(words)))

    def test_both_ends_in_turns(self):
        # What is taken apart from one end begins or ends another word, more than once.
        for words in (["ab", "abb"], ["abcdefgh", "abcdef", "ef"], ["abcab", "ab", "cabb"], ["aab", "aabaa", "baab"]):
            told = both_hull(Stock(words))
            self.assertIs(is_from_both(told), True)
            self.assertEqual(told, both_hull(Stock(right_hull(Stock(left_hull(Stock(words)))))))


class BaseTest(PlainCase):
    def check(self, words, wanted):
        self.assertEqual(base(Stock(words)), wanted)

    def test_ordinary_stocks(self):
        self.check(["aa", "a", "ab"], ["a", "ab"])
        self.check(["ab", "ba", "a", "b"], ["a", "b"])
        self.check(["b", "ab", "a"], ["b", "a"])
        self.check(["aa", "aaa"], ["aa", "aaa"])
        self.check(["aaaaa", "aaa", "aa", "aaaa"], ["aaa", "aa"])
        self.check(["a", "ab", "ba"], ["a", "ab", "ba"])
        self.check(EIGHT_POWERS[::-1], ["a"])
        self.check(["abab"], ["abab"])
        self.check(["a"], ["a"])
        self.check(["abcabc", "c", "ab", "abc"], ["c", "ab"])

    def test_against_texts(self):
        for words in list(small_rows(3, 3)) + SAMPLE + some_rows(26, 60, 8, 5) + some_rows(27, 30, 8, 8, "a"):
            stock = Stock(words)
            wanted = [word for word in words if not made([other for other in words if other != word], word)]
            self.assertEqual(base(stock), wanted)
            self.assertIs(lies_within(stock, Stock(wanted)), True)
            self.assertIs(lies_within(Stock(wanted), stock), True)
            self.assertEqual(base(Stock(wanted)), wanted)
            self.assertEqual(base(Stock(words[::-1])), wanted[::-1])


class WithinTest(PlainCase):
    def check(self, words, others, wanted):
        self.assertIs(lies_within(Stock(words), Stock(others)), wanted)

    def test_ordinary_stocks(self):
        self.check(["a", "ab", "bb"], ["a", "b"], True)
        self.check(["a", "b"], ["a", "ab", "bb"], False)
        self.check(["aa", "aaa"], ["a"], True)
        self.check(["aaaa"], ["aa"], True)
        self.check(["aaaaa"], ["aa"], False)
        self.check(["aaaaaaa"], ["aaa", "aaaa"], True)
        self.check(["aaaaa"], ["aaa", "aaaa"], False)
        self.check(["a"], ["b"], False)
        self.check(["ab", "c"], ["ab", "d"], False)
        self.check(["abcabc"], ["c", "ab"], True)

    def test_each_stock_lies_within_itself(self):
        for words in SAMPLE:
            self.check(words, words, True)
            self.check(words, words[::-1], True)

    def test_against_all_texts(self):
        rows = list(small_rows(2, 2)) + [["aab", "b"], ["aba", "bab"], ["aaa", "aa", "b"]]
        texts = [set(all_texts(words, 6)) for words in rows]
        for number, other in itertools.product(range(len(rows)), repeat=2):
            self.check(rows[number], rows[other], texts[number] <= texts[other])


class CallTest(PlainCase):
    def test_by_name(self):
        stock = Stock(["a", "ab", "bb"])
        self.assertEqual(free_hull(stock=stock), ["a", "ab", "bb"])
        self.assertEqual(left_hull(stock=stock), ["a", "b"])
        self.assertEqual(right_hull(stock=stock), ["a", "ab", "bb"])
        self.assertEqual(both_hull(stock=stock), ["a", "b"])
        self.assertEqual(base(stock=stock), ["a", "ab", "bb"])
        self.assertIs(lies_within(other=Stock(["a", "b"]), stock=stock), True)
        self.assertIs(lies_within(stock, other=Stock(["a", "bb"])), False)

    def test_lists_are_new(self):
        for words in (["a"], ["b", "a"], ["ab", "a", "ba"], ["bb", "ab", "a"], EIGHT_POWERS):
            stock = Stock(words)
            for function in (free_hull, left_hull, right_hull, both_hull, base):
                told = function(stock)
                before = list(told)
                told.append("changed")
                told[0] = "changed"
                self.assertEqual(function(stock), before)
                self.assertEqual(function(Stock(words)), before)
            self.assertEqual(stock, Stock(words))

    def test_stocks_stay(self):
        stock, other = Stock(["ab", "a", "ba"]), Stock(["b", "a"])
        for hull, _ in MANNERS:
            hull(stock)
        lies_within(stock, other)
        self.assertEqual([stock.words, other.words], [["ab", "a", "ba"], ["b", "a"]])

    def test_all_are_defined_in_the_file_that_lists_them(self):
        for name in ("free_hull", "left_hull", "right_hull", "both_hull", "base", "lies_within"):
            self.assertEqual(getattr(hulls, name).__module__, "wordhulls.hulls", name)


if __name__ == "__main__":
    unittest.main()
