"""Points 2, 3 and 7: cuts, one by one, to the free hull."""

import random
import unittest

from brute import EIGHT_POWERS, PlainCase, made, one_way, small_rows, some_rows
from hard import HARD, MANY_CUTS
from wordhulls import cuts as cuts_file
from wordhulls.cuts import after_cuts, are_cuts, cuts
from wordhulls.errors import InvalidNumber
from wordhulls.hulls import free_hull
from wordhulls.stocks import Stock

HUGE = 10 ** 400
SAMPLE = some_rows(31, 150, 8, 8) + some_rows(32, 60, 8, 8, "abc") + some_rows(33, 80, 5, 4) + some_rows(34, 40, 8, 3)
THREE = ["a", "ab", "ba"]
STEPS = [("ab", "a", "aba"), ("ba", "b", "ba")]


def is_cut_by_hand(words, step):
    word, begin, text = step
    return (
        word in words and begin in words and word != begin and word.startswith(begin)
        and text.startswith(word) and made(words, text[len(word):]) and made(words, text[len(begin):])
    )


def behind_by_hand(words, step):
    word, begin, _ = step
    return sorted(set(words) - {word} | {word[len(begin):]})


def shared_text(words, one, other):
    """A text that has a reading with each of two first words, None if there is none."""
    ahead, seen = [(other, other[len(one):])], set()
    for text, rest in ahead:
        if rest == "":
            return text
        if rest not in seen:
            seen.add(rest)
            for word in words:
                if rest.startswith(word):
                    ahead.append((text, rest[len(word):]))
                elif word.startswith(rest):
                    ahead.append((text + word[len(rest):], word[len(rest):]))
    return None


def steps_at_random(words, source):
    """A row of cuts, each taken from all that there are, with a text that may be longer than need be."""
    told, steps = sorted(words), []
    while True:
        found = []
        for begin in told:
            for word in told:
                if word != begin and word.startswith(begin):
                    text = shared_text(told, begin, word)
                    if text is not None:
                        found.append((word, begin, text))
        if not found:
            return steps
        word, begin, text = source.choice(found)
        for _ in range(source.randrange(4)):
            text += source.choice(told)
        steps.append((word, begin, text))
        told = behind_by_hand(told, steps[-1])


class CutsTest(PlainCase):
    def check(self, words):
        stock = Stock(words)
        steps = cuts(stock)
        self.assertIs(type(steps), list)
        self.assertLessEqual(len(steps), 70)
        self.assertIs(steps == [], one_way(tuple(words)))
        told = sorted(words)
        for number, step in enumerate(steps):
            self.assertIs(type(step), tuple)
            self.assertEqual([type(part) for part in step], [str, str, str])
            self.assertIs(is_cut_by_hand(told, step), True)
            self.assertEqual(after_cuts(stock, steps[:number]), told)
            self.assertIs(one_way(tuple(told)), False)
            self.assertIs(are_cuts(stock, steps[:number]), False)
            told = behind_by_hand(told, step)
        self.assertIs(one_way(tuple(told)), True)
        self.assertEqual(told, free_hull(stock))
        self.assertEqual(after_cuts(stock, steps), told)
        self.assertIs(are_cuts(stock, steps), True)
        return len(steps)

    def test_small_stocks(self):
        for words in small_rows(3, 3):
            with self.subTest(words=words):
                self.check(words)

    def test_other_stocks(self):
        for words in SAMPLE:
            with self.subTest(words=words):
                self.check(words)
                self.check(words[::-1])

    def test_many_cuts(self):
        for words in HARD:
            self.check(words)
        self.assertEqual([self.check(words) for words in MANY_CUTS], [49, 49])

    def test_the_words_take_the_place_of_one_that_is_there(self):
        self.assertEqual(cuts(Stock(["a", "aa"])), [("aa", "a", "aa")])
        self.assertEqual(after_cuts(Stock(["a", "aa"]), [("aa", "a", "aa")]), ["a"])
        self.assertEqual(self.check(EIGHT_POWERS), 28)

    def test_read_in_one_way(self):
        for words in (["a"], ["abab"], ["a", "b"], ["a", "ab", "bb"], ["b", "ab"]):
            self.assertEqual(cuts(Stock(words)), [])
            self.assertIs(are_cuts(Stock(words), []), True)
            self.assertEqual(after_cuts(Stock(words), []), sorted(words))


class OtherSequencesTest(PlainCase):
    def test_all_lead_to_the_free_hull(self):
        source = random.Random(35)
        unlike = 0
        for words in list(small_rows(3, 3))[::3] + SAMPLE:
            stock = Stock(words)
            for _ in range(3):
                steps = steps_at_random(words, source)
                with self.subTest(words=words, steps=steps):
                    self.assertIs(are_cuts(stock, steps), True)
                    self.assertEqual(after_cuts(stock, steps), free_hull(stock))
                    unlike += steps != cuts(stock)
                    if steps:
                        self.assertIs(are_cuts(stock, steps[:-1]), False)
                        self.assertIs(are_cuts(stock, steps + steps[-1:]), False)
        self.assertGreater(unlike, 300)

    def test_ordinary_ones(self):
        stock = Stock(["a", "b", "ab", "ba"])
        one, other = ("ab", "a", "ab"), ("ba", "b", "ba")
        for steps in ([one, other], [other, one], [("ab", "a", "abba"), ("ba", "b", "babab")]):
            self.assertIs(are_cuts(stock, steps), True)
            self.assertEqual(after_cuts(stock, steps), ["a", "b"])
        self.assertEqual(after_cuts(stock, [one]), ["a", "b", "ba"])
        self.assertEqual(after_cuts(stock, [other]), ["a", "ab", "b"])
        # In the other sequence, the second one has no word of its own left.
        powers = Stock(["aa", "aaa"])
        self.assertIs(are_cuts(powers, [("aaa", "aa", "aaaaaa"), ("aa", "a", "aa")]), True)
        self.assertIs(are_cuts(powers, [("aa", "a", "aa"), ("aaa", "aa", "aaaaaa")]), False)


class AreCutsTest(PlainCase):
    def check(self, words, value, wanted):
        self.assertIs(are_cuts(Stock(words), value), wanted)

    def test_right_lists(self):
        self.check(THREE, STEPS, True)
        self.check(THREE, [("ab", "a", "aba"), ("ba", "b", "ba" * 200)], True)
        self.check(THREE, [("ab", "a", "aba" * 100), ("ba", "b", "baab")], True)
        self.check(THREE[::-1], STEPS, True)

    def test_one_thing_changed(self):
        for value in (
            [],
            STEPS[:1],
            STEPS[1:],
            STEPS[::-1],
            STEPS + STEPS[:1],
            STEPS + STEPS[1:],
            STEPS[:1] + STEPS,
            # Words that are like, are none, or of which none begins the other one.
            [("ab", "ab", "aba"), ("ba", "b", "ba")],
            [("a", "a", "aba"), ("ba", "b", "ba")],
            [("a", "ab", "aba"), ("ba", "b", "ba")],
            [("ab", "b", "aba"), ("ba", "b", "ba")],
            [("ab", "ba", "aba"), ("ba", "b", "ba")],
            [("ba", "a", "aba"), ("ba", "b", "ba")],
            [("ab", "", "aba"), ("ba", "b", "ba")],
            [("", "a", "aba"), ("ba", "b", "ba")],
            [("aba", "a", "aba"), ("ba", "b", "ba")],
            [("ab", "a", "aba"), ("ba", "ba", "ba")],
            [("ab", "a", "aba"), ("ab", "a", "aba")],
            # Texts with no such readings.
            [("ab", "a", ""), ("ba", "b", "ba")],
            [("ab", "a", "a"), ("ba", "b", "ba")],
            [("ab", "a", "ab"), ("ba", "b", "ba")],
            [("ab", "a", "ba"), ("ba", "b", "ba")],
            [("ab", "a", "abb"), ("ba", "b", "ba")],
            [("ab", "a", "abab"), ("ba", "b", "ba")],
            [("ab", "a", "abA"), ("ba", "b", "ba")],
            [("ab", "a", "aba "), ("ba", "b", "ba")],
            [("ab", "a", " aba"), ("ba", "b", "ba")],
            [("ab", "a", "aba\n"), ("ba", "b", "ba")],
            [("ab", "a", "aba\ud800"), ("ba", "b", "ba")],
            [("ab", "a", "aba"), ("ba", "b", "b")],
            [("ab", "a", "aba"), ("ba", "b", "ab")],
            # More and fewer things.
            [("ab", "a"), ("ba", "b", "ba")],
            [("ab", "a", "aba", "aba"), ("ba", "b", "ba")],
            [(), ("ba", "b", "ba")],
            [("ab", "a", "aba"), ("ba", "b", "ba"), ()],
        ):
            with self.subTest(value=value):
                self.check(THREE, value, False)
        self.check(["a", "ab", "bb"], STEPS, False)
        self.check(["a", "ab", "bb"], STEPS[:1], False)
        self.check(["a", "b"], STEPS[:1], False)

    def test_lists_and_tuples(self):
        for value in (
            tuple(STEPS),
            [list(step) for step in STEPS],
            [STEPS[0], list(STEPS[1])],
            [(["a", "b"], "a", "aba"), STEPS[1]],
            [("ab", ["a"], "aba"), STEPS[1]],
            [("ab", ("a",), "aba"), STEPS[1]],
            [("ab", "a", ["a", "b", "a"]), STEPS[1]],
            [STEPS],
            (STEPS,),
            STEPS[0],
            list(STEPS[0]),
            {STEPS[0]: STEPS[1]},
            set(STEPS),
            iter(STEPS),
        ):
            with self.subTest(value=value):
                self.check(THREE, value, False)

    def test_values_of_other_kinds(self):
        class Odd:
            def __eq__(self, other):
                raise RuntimeError("compared")

            def __bool__(self):
                raise RuntimeError("asked")

        class Equal:
            def __eq__(self, other):
                return True

            def startswith(self, other):
                return True

            def __len__(self):
                return 2

        deep = []
        for _ in range(37):
            deep = [deep]
        for odd in (
            None, True, False, 0, 1, 2, HUGE, "", "ba", "abab", b"", b"ab", (), {}, set(), frozenset(), range(2), object(),
            Odd(), Equal(), Stock(["a"]), Stock, int, len, deep, iter([]), ValueError("a"), bytearray(b"ab"), ...,
            "\ud800", ["ab"], [["ab"]],
        ):
            values = [odd, [odd], [STEPS[0], odd], STEPS + [odd], [(odd, "a", "aba"), STEPS[1]]]
            values.append([("ab", odd, "aba"), STEPS[1]])
            values.append([("ab", "a", odd), STEPS[1]])
            for value in values:
                self.check(THREE, value, False)

    def test_longer_lists(self):
        # Each cut takes a letter away at least, and words have 64 together.
        for many in (69, 70, 71, 100, 400, 100000):
            self.check(THREE, STEPS * many, False)
            self.check(THREE, STEPS[:1] + STEPS[1:] * many, False)
            self.check(THREE, STEPS + [("a", "a", "a")] * many, False)

    def test_long_texts(self):
        self.check(THREE, [("ab", "a", "aba" + "ab" * 50000), ("ba", "b", "ba" + "b" * 50000)], True)
        self.check(["a", "aa"], [("aa", "a", "a" * 100000)], True)
        self.check(["a", "aa"], [("aa", "a", "a" * 100000 + "b")], False)

    def test_no_value_is_changed(self):
        stock = Stock(THREE)
        for value in (list(STEPS), STEPS + STEPS, [list(step) for step in STEPS], [STEPS[0], ["ba", "b"]]):
            before = repr(value)
            are_cuts(stock, value)
            self.assertEqual(repr(value), before)
        self.assertEqual(stock.words, THREE)


class AfterCutsTest(PlainCase):
    def check_wrong(self, words, steps, index):
        before = repr(steps)
        self.check_error(InvalidNumber, index, after_cuts, Stock(words), steps)
        self.assertEqual(repr(steps), before)

    def test_no_cuts(self):
        for words in SAMPLE:
            self.assertEqual(after_cuts(Stock(words), []), sorted(words))

    def test_some_cuts(self):
        self.assertEqual(after_cuts(Stock(THREE), STEPS[:1]), ["a", "b", "ba"])
        self.assertEqual(after_cuts(Stock(THREE), STEPS), ["a", "b"])
        self.assertEqual(after_cuts(Stock(["c", "ab", "ba", "a"]), STEPS[:1]), ["a", "b", "ba", "c"])

    def test_the_first_one_that_is_no_cut(self):
        self.check_wrong(THREE, STEPS[1:], 0)
        self.check_wrong(THREE, STEPS[::-1], 0)
        self.check_wrong(THREE, STEPS[:1] * 2, 1)
        self.check_wrong(THREE, STEPS + STEPS[:1], 2)
        self.check_wrong(THREE, STEPS + STEPS, 2)
        self.check_wrong(THREE, STEPS + STEPS[1:] * 68, 2)
        self.check_wrong(THREE, STEPS + STEPS[1:] * 90, 2)
        self.check_wrong(THREE, [("ab", "a", "ab")] + STEPS, 0)
        self.check_wrong(THREE, STEPS[:1] + [("ab", "a", "aba"), ("x", "y", "z")], 1)
        self.check_wrong(["a", "ab", "bb"], STEPS, 0)
        self.check_wrong(["a"], [("a", "a", "a")], 0)
        self.check_wrong(["a", "aa"], [("aa", "a", "aa"), ("a", "a", "a")], 1)

    def test_wrong_cuts_at_each_place(self):
        some = 0
        for words in SAMPLE + HARD:
            steps = cuts(Stock(words))
            for number, (word, begin, text) in enumerate(steps):
                for wrong in (
                    (begin, word, text), (word, begin, text + "A"), (word, begin, begin), (word, begin, ""),
                    (word, word, text), (begin, begin, text), (word + "x", begin, text), (word, "", text),
                ):
                    some += 1
                    self.check_wrong(words, steps[:number] + [wrong] + steps[number:], number)
        self.assertGreater(some, 1000)


class CallTest(PlainCase):
    def test_by_name(self):
        stock = Stock(THREE)
        self.assertEqual(cuts(stock=stock), cuts(stock))
        self.assertIs(are_cuts(value=STEPS, stock=stock), True)
        self.assertIs(are_cuts(stock, value=[]), False)
        self.assertEqual(after_cuts(steps=STEPS[:1], stock=stock), ["a", "b", "ba"])
        self.check_error(InvalidNumber, 0, after_cuts, steps=STEPS[1:], stock=stock)

    def test_lists_are_new(self):
        for words in (THREE, ["a"], ["aa", "aaa"], EIGHT_POWERS):
            stock = Stock(words)
            told = cuts(stock)
            before = list(told)
            told.append("changed")
            told.reverse()
            self.assertEqual(cuts(stock), before)
            self.assertEqual(cuts(Stock(words)), before)
            after = after_cuts(stock, before)
            after.append("changed")
            after[0] = "changed"
            self.assertEqual(after_cuts(stock, before), free_hull(stock))
            self.assertEqual(stock.words, words)
            self.assertEqual(stock, Stock(words))

    def test_all_are_defined_in_the_file_that_lists_them(self):
        for name in ("cuts", "are_cuts", "after_cuts"):
            self.assertEqual(getattr(cuts_file, name).__module__, "wordhulls.cuts", name)


if __name__ == "__main__":
    unittest.main()
