"""Points 2, 3 and 7: whether the base of two stocks ends, its longest words and the loops by which it has no end."""

import unittest

from brute import (
    EIGHT_POWERS, LetterPairs, PlainCase, code_rows, is_base_word, one_way, small_rows, some_pairs, some_rows,
)
from hard import HARD, HARD_PAIRS, LONG_LOOPS, LONGEST_WORDS
from wordhulls import loops
from wordhulls.commons import count_base, first_common, nth_base
from wordhulls.errors import NotOneWay
from wordhulls.loops import base_loop, is_base_loop, longest_base
from wordhulls.oneway import two_readings
from wordhulls.stocks import Stock

HUGE = 10 ** 400
ROWS = code_rows(some_rows(71, 400, 4, 4) + some_rows(72, 200, 5, 3) + some_rows(73, 200, 4, 3, "abc"))
LARGE_ROWS = code_rows(some_rows(74, 500, 8, 8) + some_rows(75, 200, 6, 8, "abc"))
TWOFOLD = [["a", "aa"], ["a", "ab", "ba"], ["aa", "aaa"], ["b", "abc", "ab", "cd", "d"], EIGHT_POWERS]
ONE, OTHER = ["a", "ba"], ["a", "ab"]
# Behind b, the two rows cut after each second a; which ones, changes with each further a.
TURNS = ["b", "ba", "aa", "c"]
OTHER_TURNS = ["ba", "baa", "aa", "ac", "bc", "bac"]


def endless_pairs(seed, many, rows):
    """So many pairs of rows of words whose base has no end."""
    return [told for told in some_pairs(seed, 4000, rows) if LetterPairs(*told, True).longest() is None][:many]


class LoopCase(PlainCase):
    def check_loop(self, words, others, value):
        """Checks by hand that a value is what base_loop may return."""
        self.assertIs(type(value), tuple)
        self.assertEqual([type(part) for part in value], [str, str, str])
        ahead, ring, behind = value
        self.assertNotEqual(ring, "")
        for rings in (0, 1, 2, 3, 4, 5, 9, 23):
            self.assertTrue(is_base_word(words, others, ahead + ring * rings + behind), rings)
        self.check_is(words, others, value, True)

    def check_is(self, words, others, value, wanted):
        self.assertIs(is_base_loop(Stock(words), Stock(others), value), wanted, value)

    def check_by_rings(self, words, others, value, most=25):
        """Checks what is_base_loop says of a value against the first so many rings; returns it."""
        ahead, ring, behind = value
        wanted = ring != "" and all(
            is_base_word(words, others, ahead + ring * rings + behind) for rings in range(most)
        )
        self.check_is(words, others, value, wanted)
        return wanted


class LongestTest(LoopCase):
    def check_longest(self, words, others):
        wanted = LetterPairs(words, others, True).longest()
        for stock, other in ((Stock(words), Stock(others)), (Stock(others), Stock(words))):
            longest = longest_base(stock, other)
            self.assertEqual(longest, wanted)
            self.assertIn(type(longest), (int, type(None)))
            if wanted is not None and 0 < wanted:
                self.assertGreater(count_base(stock, other, wanted), 0)
            self.assertEqual(wanted == 0, first_common(stock, other) is None)

    def test_small_stocks(self):
        rows = code_rows(small_rows(2, 2))
        for words in rows:
            for others in rows:
                self.check_longest(words, others)
        for words, others in some_pairs(76, 300, code_rows(small_rows(3, 3))) + some_pairs(77, 300, ROWS):
            with self.subTest(words=words, others=others):
                self.check_longest(words, others)

    def test_large_stocks(self):
        for words, others in some_pairs(78, 60, LARGE_ROWS) + HARD_PAIRS:
            with self.subTest(words=words, others=others):
                self.check_longest(words, others)

    def test_powers_of_one_letter(self):
        for one in range(1, 9):
            for other in range(1, 9):
                least = next(many for many in range(1, 65) if many % one == 0 and many % other == 0)
                self.assertEqual(longest_base(Stock(["a" * one]), Stock(["a" * other])), least)
                self.assertIsNone(base_loop(Stock(["a" * one]), Stock(["a" * other])))

    def test_no_word(self):
        for words, others in (
            (["a"], ["b"]), (["ab"], ["ba"]), (["ab"], ["a"]), (["aab", "aabb"], ["ba", "bba"]),
            (["abc"], ["abcabcab"]),
        ):
            longest = longest_base(Stock(words), Stock(others))
            self.assertEqual(longest, LetterPairs(words, others, True).longest())
        self.assertEqual(longest_base(Stock(["a"]), Stock(["b"])), 0)
        self.assertEqual(longest_base(Stock(["ab"]), Stock(["ba"])), 0)
        self.assertEqual(longest_base(Stock(["abc"]), Stock(["abcabcab"])), 0)

    def test_a_row_without_end_that_no_word_comes_from(self):
        # abab.. goes on for ever without a meeting, so that it is no loop of the base.
        for words, others in ((["ab"], ["a", "ba"]), (["ab", "c"], ["aba", "ba", "c"]), (["aba", "b"], ["ab"])):
            self.check_longest(words, others)
        self.assertEqual(longest_base(Stock(["ab"]), Stock(["a", "ba"])), 0)
        self.assertEqual(longest_base(Stock(["ab", "c"]), Stock(["aba", "ba", "c"])), 1)

    def test_a_stock_with_itself(self):
        for words in ROWS[:60] + LARGE_ROWS[:60]:
            longest = max([len(word) for word in words])
            self.assertEqual(longest_base(Stock(words), Stock(words)), longest)
            self.assertIsNone(base_loop(Stock(words), Stock(words)))

    def test_long_words(self):
        lengths = [longest_base(Stock(words), Stock(others)) for words, others in LONGEST_WORDS]
        self.assertNotIn(None, lengths)
        self.assertGreater(max(lengths), 110)

    def test_no_longest_word(self):
        self.assertIsNone(longest_base(Stock(ONE), Stock(OTHER)))
        self.assertIsNone(longest_base(Stock(TURNS), Stock(OTHER_TURNS)))


class BaseLoopTest(LoopCase):
    def check_base_loop(self, words, others):
        wanted = LetterPairs(words, others, True).longest()
        for one, two in ((words, others), (others, words)):
            value = base_loop(Stock(one), Stock(two))
            if wanted is None:
                self.check_loop(one, two, value)
            else:
                self.assertIsNone(value)

    def test_small_stocks(self):
        rows = code_rows(small_rows(2, 2))
        for words in rows:
            for others in rows:
                self.check_base_loop(words, others)
        for words, others in some_pairs(79, 300, code_rows(small_rows(3, 3))) + some_pairs(80, 200, ROWS):
            with self.subTest(words=words, others=others):
                self.check_base_loop(words, others)

    def test_large_stocks(self):
        for words, others in some_pairs(81, 60, LARGE_ROWS) + HARD_PAIRS + endless_pairs(82, 10, LARGE_ROWS):
            with self.subTest(words=words, others=others):
                self.check_base_loop(words, others)

    def test_long_loops(self):
        told = [base_loop(Stock(words), Stock(others)) for words, others in LONG_LOOPS]
        self.assertGreater(max([len(ring) for _, ring, _ in told]), 60)
        self.assertGreater(max([len(behind) for _, _, behind in told]), 60)


class IsBaseLoopTest(LoopCase):
    def test_right_values(self):
        for value in (
            ("a", "ba", "ba"), ("ab", "ab", "a"), ("", "ab", "aba"), ("aba", "ba", ""), ("aba", "baba", "ba"),
            ("a" + "ba" * 60, "ba" * 70, "ba" * 50),
        ):
            self.check_loop(ONE, OTHER, value)
        for value in (("b", "a", "c"), ("ba", "a", "c"), ("b", "aa", "c"), ("b", "aaa", "aac")):
            self.check_loop(TURNS, OTHER_TURNS, value)

    def test_the_word_without_a_ring_counts(self):
        # a(ba) alone is no word of the base: each word has one a more than it has b, and begins with it.
        for value in (("", "ab", "a"), ("a", "ba", ""), ("", "ba", "a"), ("", "ab", ""), ("ab", "ab", "")):
            self.check_by_rings(ONE, OTHER, value)
        self.check_is(ONE, OTHER, ("", "aba", ""), False)
        self.check_is(ONE, OTHER, ("", "ababa", ""), False)

    def test_right_for_some_rings_only(self):
        rows = ["b" + "a" * many + "b" for many in range(7)]
        for words, others in ((rows, ["a", "b"]), (rows + ["c"], ["a", "b", "c"])):
            self.check_is(words, others, ("b", "a", "b"), False)
            self.check_is(words, others, ("b", "aaaaaaa", "b"), False)
        # Without one word of the other stock, some of the words of the base are gone.
        for gone in ("bac", "bc", "ac"):
            others = [word for word in OTHER_TURNS if word != gone]
            self.assertTrue(one_way(tuple(others)))
            for value in (("b", "a", "c"), ("ba", "a", "c"), ("b", "aa", "c"), ("ba", "aa", "c"), ("bab", "a", "c")):
                self.check_by_rings(TURNS, others, value)

    def test_rings_that_need_to_go_round_more_than_once(self):
        for many in range(2, 8):
            words = ["b", "a" * many, "c"]
            others = ["ba", "a" * (many - 1) + "c", "a" * many]
            for ring in range(1, 2 * many + 1):
                for ahead in range(many + 2):
                    self.check_by_rings(words, others, ("b" + "a" * ahead, "a" * ring, "a" * (many - ahead) + "c"))
                    self.check_by_rings(words, others, ("b", "a" * ring, "a" * ahead + "c"))
            self.check_is(words, others, ("b", "a" * many, "a" * many + "c"), True)
            self.check_is(words, others, ("b", "a", "a" * many + "c"), False)

    def test_one_thing_changed(self):
        held = {True: 0, False: 0}
        for words, others in endless_pairs(83, 25, ROWS) + endless_pairs(84, 5, LARGE_ROWS):
            ahead, ring, behind = base_loop(Stock(words), Stock(others))
            values = [
                (ahead, ring * 2, behind), (ahead, "", behind), (ahead, ring[:-1], behind), (ahead, ring[1:], behind),
                (behind, ring, ahead), (ahead, behind, ring), (ring, ahead, behind), (ahead, ring[::-1], behind),
                (ahead + ring, ring, behind), (ahead, ring, ring + behind), (ahead, ring, ring[::-1] + behind),
                (ahead + ring[0], ring[1:] + ring[0], behind), (ahead + ring[0], ring[1:], behind),
                (ahead + ring[0], ring[1:] + ring[0], ring[1:] + behind), (ahead, ring[0] + ring, behind),
                (ahead[:-1], ahead[-1:] + ring, behind), (ahead[:-1], ahead[-1:] + ring[:-1], ring[-1] + behind),
                (ahead, ring + behind[:1], behind[1:]), (ahead, ring, behind[1:]), (ahead[1:], ring, behind),
                (ahead, ring[:len(ring) // 2], behind), (ahead, ring[:1], behind), ("", ring, ""),
            ]
            for value in values:
                with self.subTest(words=words, others=others, value=value):
                    held[self.check_by_rings(words, others, value)] += 1
        self.assertGreater(min(held.values()), 100)

    def test_all_ways_to_cut_words_of_the_base(self):
        held = {True: 0, False: 0}
        for words, others in endless_pairs(85, 12, ROWS) + [(ONE, OTHER), (TURNS, OTHER_TURNS)]:
            stock, other = Stock(words), Stock(others)
            told = [
                nth_base(stock, other, length, index)
                for length in range(9)
                for index in range(count_base(stock, other, length))
            ]
            for word in told[:20]:
                for start in range(len(word)):
                    for end in range(start + 1, len(word) + 1):
                        for behind in (word[start:], word[end:]):
                            held[self.check_by_rings(words, others, (word[:start], word[start:end], behind))] += 1
        self.assertGreater(min(held.values()), 100)

    def test_a_base_that_ends_has_no_loop(self):
        for words, others in ((["a"], ["a"]), (["aa"], ["aaa"]), (["a"], ["b"]), (["ab", "b"], ["ab", "b"])):
            for value in (
                ("", "a", ""), ("a", "a", "a"), ("", "ab", "b"), ("aaaaaa", "aaaaaa", "aaaaaa"), ("", "", ""),
            ):
                self.check_is(words, others, value, False)

    def test_values_of_other_forms(self):
        for value in (
            ["a", "ba", "ba"], ("a", "ba"), ("a", "ba", "ba", ""), ("a", "ba", "ba", "ba"), ("a",), (), "aba",
            ("a", ["b", "a"], "ba"), (["a"], "ba", "ba"), ("a", "ba", None), ("a", b"ba", "ba"), ("a", 1, "ba"),
            (("a", "ba", "ba"),), (("a",), "ba", "ba"), ("a", "", "ba"), ("", "", ""), ("aba", "", ""),
            ("A", "ba", "ba"), ("a", "BA", "ba"), ("a", "ba", "ba "), ("a", "ba", "ba\n"), (" a", "ba", "ba"),
            ("a", "b\u00e4", "ba"), ("a", "\ud800", "ba"), ("a", "b\u0430", "ba"), ("a", "ba", "b\0a"),
            ("a", "1", "ba"), ("a", "z", "ba"), ("-", "-", "-"),
        ):
            self.check_is(ONE, OTHER, value, False)

    def test_values_of_other_kinds(self):
        class Odd:
            def __eq__(self, other):
                raise RuntimeError("compared")

            def __bool__(self):
                raise RuntimeError("asked")

        class Equal:
            def __eq__(self, other):
                return True

            def __len__(self):
                return 3

            def __iter__(self):
                return iter(("a", "ba", "ba"))

        deep = []
        for _ in range(38):
            deep = [deep]
        values = [
            None, True, False, 0, 1, 3, -1, HUGE, b"", b"aba", [], (), {}, set(), frozenset(), {1, 2}, range(3),
            {"a": "ba"}, {0: "a", 1: "ba", 2: "ba"}, object(), Odd(), Equal(), Stock(["a"]), Stock, int, len, deep,
            iter([]), ValueError("a"), NotOneWay("a"), bytearray(b"ba"), ...,
        ]
        for odd in values:
            for value in (odd, (odd, "ba", "ba"), ("a", odd, "ba"), ("a", "ba", odd), (odd, odd, odd)):
                self.check_is(ONE, OTHER, value, False)

    def test_no_value_is_changed(self):
        one, other = Stock(ONE), Stock(OTHER)
        for value in (["a", "ba", "ba"], ("a", ["ba"], "ba"), ("a", "ba", "ba"), [["a"], {"b": ["a"]}]):
            before = repr(value)
            is_base_loop(one, other, value)
            self.assertEqual(repr(value), before)
        self.assertEqual([one.words, other.words], [ONE, OTHER])

    def test_long_values(self):
        for words, others in [(ONE, OTHER), (TURNS, OTHER_TURNS)] + LONG_LOOPS:
            ahead, ring, behind = base_loop(Stock(words), Stock(others))
            many = 400 // len(ring)
            value = (ahead + ring * (many - 1), ring * many, ring * (many - 1) + behind)
            self.check_is(words, others, value, True)
            self.check_is(words, others, (value[0], value[1], value[2] + "a"), False)
            self.check_is(words, others, (value[0], value[1] + "z", value[2]), False)
        self.check_is(ONE, OTHER, ("a" * 400, "b" * 400, "a" * 400), False)


class ErrorTest(PlainCase):
    def test_not_read_in_one_way(self):
        good = Stock(ONE)
        rows = [words for words in some_rows(86, 40, 8, 8) + HARD if not one_way(tuple(words))]
        for words in TWOFOLD + rows:
            stock = Stock(words)
            text = two_readings(stock)[0]
            for one, other in ((stock, good), (good, stock), (stock, stock)):
                self.check_error(NotOneWay, text, longest_base, one, other)
                self.check_error(NotOneWay, text, base_loop, one, other)
                for value in (("a", "ba", "ba"), None, 7, ["a"], ("a", "", "a")):
                    self.check_error(NotOneWay, text, is_base_loop, one, other, value)

    def test_the_first_stock_then_the_other_one(self):
        for words, others in zip(TWOFOLD, TWOFOLD[1:] + TWOFOLD[:1]):
            stock, other = Stock(words), Stock(others)
            text = two_readings(stock)[0]
            self.check_error(NotOneWay, text, longest_base, stock, other)
            self.check_error(NotOneWay, text, base_loop, stock, other)
            self.check_error(NotOneWay, text, is_base_loop, stock, other, ("a", "ba", "ba"))

    def test_by_name(self):
        good, wrong = Stock(ONE), Stock(["a", "aa"])
        self.check_error(NotOneWay, "aa", longest_base, other=wrong, stock=good)
        self.check_error(NotOneWay, "aa", base_loop, other=good, stock=wrong)
        self.check_error(NotOneWay, "aa", is_base_loop, value=0, other=wrong, stock=good)


class CallTest(LoopCase):
    def test_by_name(self):
        one, other = Stock(ONE), Stock(OTHER)
        self.assertIsNone(longest_base(other=other, stock=one))
        self.check_loop(ONE, OTHER, base_loop(other=other, stock=one))
        self.assertIs(is_base_loop(value=("a", "ba", "ba"), other=other, stock=one), True)
        self.assertIs(is_base_loop(one, other, value=("a", "b", "ba")), False)

    def test_stocks_stay_and_answers_too(self):
        one, other = Stock(ONE), Stock(OTHER)

        def answers():
            return longest_base(one, other), base_loop(one, other), is_base_loop(one, other, ("a", "ba", "ba"))

        told = answers()
        for stock, another in ((other, one), (one, one), (Stock(["a"]), one), (Stock(TURNS), Stock(OTHER_TURNS))):
            longest_base(stock, another)
            base_loop(stock, another)
            is_base_loop(stock, another, ("b", "a", "c"))
            self.assertEqual(answers(), told)
        self.assertEqual([one.words, other.words], [ONE, OTHER])

    def test_all_are_defined_in_the_file_that_lists_them(self):
        for name in ("longest_base", "base_loop", "is_base_loop"):
            self.assertEqual(getattr(loops, name).__module__, "wordhulls.loops", name)


if __name__ == "__main__":
    unittest.main()
