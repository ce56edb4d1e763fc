"""Points 1 and 4 to 7 over the whole program: what goes along if words are turned, renamed or put in another row."""

import random
import unittest

from brute import EIGHT_POWERS, PlainCase, code_rows, one_way, some_pairs, some_rows
from hard import HARD, HARD_PAIRS
from wordhulls.commons import count_base, count_common, first_common, nth_base, nth_common
from wordhulls.counts import count_texts, nth_text, text_index
from wordhulls.cuts import after_cuts, are_cuts, cuts
from wordhulls.errors import InvalidNumber, InvalidReading, InvalidWord, WordError
from wordhulls.hulls import base, both_hull, free_hull, left_hull, lies_within, right_hull
from wordhulls.loops import base_loop, is_base_loop, longest_base
from wordhulls.oneway import agree_most, are_endless, endless_rows, is_one_way, rests, two_readings
from wordhulls.readings import count_readings, is_text, nth_reading, reading_index
from wordhulls.readtexts import read_stock
from wordhulls.rooms import filling, is_full, is_part, lost_word, room
from wordhulls.roots import commute, powers_of_one, root
from wordhulls.shelves import Shelf, SmallShelf
from wordhulls.stocks import Stock, joined, with_word, without_word
from wordhulls.texts import show_reading, show_stock

ROWS = some_rows(131, 60, 8, 8) + some_rows(132, 60, 4, 4) + some_rows(133, 40, 5, 3, "abc") + HARD
ONE_WAY_ROWS = code_rows(some_rows(134, 200, 8, 8) + some_rows(135, 120, 4, 4) + some_rows(136, 80, 4, 3, "abc"))
PAIRS = some_pairs(137, 60, ONE_WAY_ROWS) + HARD_PAIRS
# Other letters for the first three: the first way keeps the alphabet, the other ones do not.
RISING = {"a": "b", "b": "k", "c": "z"}
FALLING = {"a": "y", "b": "m", "c": "d"}
TURNED = {"a": "b", "b": "c", "c": "a"}
RENAMED = (RISING, FALLING, TURNED)
LENGTHS = (0, 3, 8, 17, 40)


def renamed(text, names):
    return "".join([names[sign] for sign in text])


def all_renamed(words, names):
    return [renamed(word, names) for word in words]


def backwards(words):
    return [word[::-1] for word in words]


def other_sequences(words, seed):
    """The words in some other sequences."""
    row = list(words)
    random.Random(seed).shuffle(row)
    return [words[::-1], sorted(words), row]


class BackwardsTest(PlainCase):
    def test_hulls(self):
        for words in ROWS:
            stock, turned = Stock(words), Stock(backwards(words))
            for hull, other_hull in (
                (free_hull, free_hull), (left_hull, right_hull), (right_hull, left_hull), (both_hull, both_hull),
            ):
                self.assertEqual(other_hull(turned), sorted(backwards(hull(stock))))
            self.assertEqual(base(turned), backwards(base(stock)))
            self.assertEqual(is_one_way(turned), is_one_way(stock))
            self.assertIs(are_cuts(turned, cuts(turned)), True)

    def test_texts_with_two_readings(self):
        for words in ROWS:
            one, other = two_readings(Stock(words)), two_readings(Stock(backwards(words)))
            self.assertEqual(one is None, other is None)
            if one is not None:
                self.assertEqual(len(one[0]), len(other[0]))
                self.assertGreater(count_readings(Stock(words), other[0][::-1]), 1)

    def test_readings_and_counts(self):
        for words in ONE_WAY_ROWS[:60]:
            stock, turned = Stock(words), Stock(backwards(words))
            for length in LENGTHS:
                many = count_texts(stock, length)
                self.assertEqual(count_texts(turned, length), many)
                if many > 0:
                    text = nth_text(stock, length, many // 2)
                    self.assertIs(is_text(turned, text[::-1]), True)
                    self.assertEqual(nth_reading(turned, text[::-1], 0), nth_reading(stock, text, 0)[::-1])

    def test_common_texts(self):
        for words, others in PAIRS:
            stock, other = Stock(words), Stock(others)
            turned, other_turned = Stock(backwards(words)), Stock(backwards(others))
            for length in LENGTHS:
                for count in (count_common, count_base):
                    self.assertEqual(count(turned, other_turned, length), count(stock, other, length))
            self.assertEqual(longest_base(turned, other_turned), longest_base(stock, other))
            first, other_first = first_common(stock, other), first_common(turned, other_turned)
            self.assertEqual(len(first or ""), len(other_first or ""))
            loop = base_loop(stock, other)
            if loop is not None:
                ahead, ring, behind = loop
                value = (behind[::-1], ring[::-1], ahead[::-1])
                self.assertIs(is_base_loop(turned, other_turned, value), True)
                self.assertIs(is_base_loop(other, stock, loop), True)

    def test_rooms(self):
        for words in ROWS:
            stock, turned = Stock(words), Stock(backwards(words))
            self.assertEqual(room(turned, 3), room(stock, 3))
            if one_way(tuple(words)):
                self.assertEqual(is_full(turned, 3), is_full(stock, 3))
            lost = lost_word(stock, 3, 8)
            self.assertEqual(len(lost or ""), len(lost_word(turned, 3, 8) or ""))
            if lost is not None:
                self.assertIs(is_part(turned, lost[::-1]), False)
            self.assertEqual(powers_of_one(turned), powers_of_one(stock))
            for word in words:
                self.assertEqual(root(word[::-1])[1], root(word)[1])


class RenamedTest(PlainCase):
    def test_hulls(self):
        for words in ROWS:
            stock = Stock(words)
            for names in RENAMED:
                turned = Stock(all_renamed(words, names))
                for hull in (free_hull, left_hull, right_hull, both_hull, rests):
                    self.assertEqual(hull(turned), sorted(all_renamed(hull(stock), names)))
                self.assertEqual(base(turned), all_renamed(base(stock), names))
                self.assertEqual(agree_most(turned), agree_most(stock))
                self.assertIs(are_endless(turned, endless_rows(stock)), endless_rows(stock) is not None)
                steps = [tuple(all_renamed(step, names)) for step in cuts(stock)]
                self.assertIs(are_cuts(turned, steps), True)
                self.assertEqual(after_cuts(turned, steps), free_hull(turned))

    def test_texts_with_two_readings(self):
        for words in ROWS:
            found = two_readings(Stock(words))
            if found is not None:
                text, first, second = found
                self.assertEqual(
                    two_readings(Stock(all_renamed(words, RISING))), (renamed(text, RISING), first, second)
                )

    def test_counts_and_texts(self):
        for words in ONE_WAY_ROWS[:60]:
            stock = Stock(words)
            for names in RENAMED:
                turned = Stock(all_renamed(words, names))
                for length in LENGTHS:
                    many = count_texts(stock, length)
                    self.assertEqual(count_texts(turned, length), many)
                    for index in sorted({0, many // 2, many - 1}):
                        if many > 0:
                            text = renamed(nth_text(stock, length, index), names)
                            wanted = {"b": index, "y": many - 1 - index}.get(names["a"])
                            if names != TURNED:
                                self.assertEqual(text_index(turned, text), wanted)
                            self.assertEqual(nth_text(turned, length, text_index(turned, text)), text)

    def test_common_texts(self):
        for words, others in PAIRS:
            stock, other = Stock(words), Stock(others)
            for names in RENAMED:
                turned, other_turned = Stock(all_renamed(words, names)), Stock(all_renamed(others, names))
                for length in LENGTHS:
                    for count, nth in ((count_common, nth_common), (count_base, nth_base)):
                        many = count(stock, other, length)
                        self.assertEqual(count(turned, other_turned, length), many)
                        if many > 0 and names != TURNED:
                            wanted = renamed(nth(stock, other, length, many // 3), names)
                            index = many // 3 if names == RISING else many - 1 - many // 3
                            self.assertEqual(nth(turned, other_turned, length, index), wanted)
                self.assertEqual(longest_base(turned, other_turned), longest_base(stock, other))
                loop = base_loop(stock, other)
                if loop is not None:
                    self.assertIs(is_base_loop(turned, other_turned, tuple(all_renamed(loop, names))), True)
            first = first_common(stock, other)
            turned, other_turned = Stock(all_renamed(words, RISING)), Stock(all_renamed(others, RISING))
            self.assertEqual(first_common(turned, other_turned), None if first is None else renamed(first, RISING))

    def test_rooms(self):
        for words in ROWS:
            stock, turned = Stock(words), Stock(all_renamed(words, TURNED))
            self.assertEqual(room(turned, 3), room(stock, 3))
            self.assertEqual(room(Stock(all_renamed(words, FALLING)), 26), room(stock, 26))
            if one_way(tuple(words)):
                self.assertEqual(is_full(turned, 3), is_full(stock, 3))
            if left_hull(stock) == sorted(words):
                self.assertEqual(filling(turned, 3), sorted(all_renamed(filling(stock, 3), TURNED)))
            lost = lost_word(stock, 3, 8)
            self.assertEqual(len(lost or ""), len(lost_word(turned, 3, 8) or ""))
            if lost is not None:
                self.assertIs(is_part(turned, renamed(lost, TURNED)), False)
            for word in words:
                self.assertEqual(root(renamed(word, TURNED)), (renamed(root(word)[0], TURNED), root(word)[1]))


class SequenceTest(PlainCase):
    def test_hulls(self):
        for seed, words in enumerate(ROWS):
            stock = Stock(words)
            for row in other_sequences(words, seed):
                other = Stock(row)
                for ask in (
                    free_hull, left_hull, right_hull, both_hull, rests, is_one_way, agree_most, powers_of_one,
                ):
                    self.assertEqual(ask(other), ask(stock))
                self.assertEqual(sorted(base(other)), sorted(base(stock)))
                self.assertEqual(base(other), [word for word in row if word in base(stock)])
                self.assertIs(are_cuts(other, cuts(stock)), True)
                self.assertEqual((two_readings(other) or [None])[0], (two_readings(stock) or [None])[0])
                self.assertIs(lies_within(other, stock) and lies_within(stock, other), True)

    def test_counts_and_common_texts(self):
        for seed, (words, others) in enumerate(PAIRS):
            stock, other = Stock(words), Stock(others)
            for row, other_row in zip(other_sequences(words, seed), other_sequences(others, seed)):
                one, two = Stock(row), Stock(other_row)
                for length in LENGTHS:
                    many = count_texts(stock, length)
                    self.assertEqual(count_texts(one, length), many)
                    if many > 0:
                        self.assertEqual(nth_text(one, length, many // 2), nth_text(stock, length, many // 2))
                    for count, nth in ((count_common, nth_common), (count_base, nth_base)):
                        many = count(stock, other, length)
                        self.assertEqual(count(two, one, length), many)
                        if many > 0:
                            self.assertEqual(nth(one, two, length, many // 2), nth(stock, other, length, many // 2))
                self.assertEqual(first_common(one, two), first_common(stock, other))
                self.assertEqual(longest_base(one, two), longest_base(stock, other))
                loop = base_loop(stock, other)
                self.assertIs(is_base_loop(one, two, loop), loop is not None)

    def test_rooms(self):
        for seed, words in enumerate(ROWS):
            stock = Stock(words)
            for row in other_sequences(words, seed):
                other = Stock(row)
                self.assertEqual(room(other, 3), room(stock, 3))
                self.assertEqual(lost_word(other, 3, 8), lost_word(stock, 3, 8))
                if left_hull(stock) == sorted(words):
                    self.assertEqual(filling(other, 3), filling(stock, 3))


class TogetherTest(PlainCase):
    """What one part of the program tells goes with what another one tells."""

    def test_hulls_are_read_in_one_way(self):
        for words in ROWS:
            stock = Stock(words)
            hull = Stock(free_hull(stock))
            self.assertIs(is_one_way(hull) and lies_within(stock, hull), True)
            self.assertEqual(base(hull), hull.words)
            self.assertEqual(cuts(hull), [])
            if is_one_way(stock):
                self.assertEqual(hull.words, sorted(words))

    def test_the_base_of_hulls_that_lie_within_each_other(self):
        for words in ROWS[:80]:
            stock = Stock(words)
            free, left = Stock(free_hull(stock)), Stock(left_hull(stock))
            for length in range(9):
                row = [word for word in free.words if len(word) == length]
                self.assertEqual(count_base(free, left, length), len(row))
                self.assertEqual([nth_base(left, free, length, index) for index in range(len(row))], row)
            for length in LENGTHS:
                self.assertEqual(count_common(left, free, length), count_texts(free, length))

    def test_powers_have_one_word_for_a_hull(self):
        for words in ROWS + [EIGHT_POWERS, ["abab", "ab"], ["aa", "aaa"], ["aaaa", "aaaaaa"]]:
            stock = Stock(words)
            self.assertEqual(powers_of_one(stock), len(free_hull(stock)) == 1)
            if len(words) == 2:
                self.assertEqual(commute(*words), not is_one_way(stock))

    def test_rooms_of_stocks_read_in_one_way(self):
        for words in ROWS:
            stock = Stock(words)
            top, bottom = room(stock, 3)
            if is_one_way(stock):
                self.assertLessEqual(top, bottom)
                # A set read in one way that leaves no room loses no word.
                if is_full(stock, 3):
                    self.assertIsNone(lost_word(stock, 3, 8))
            if left_hull(stock) == sorted(words):
                self.assertEqual(is_full(stock, 3), filling(stock, 3) == [])

    def test_shelves_show_and_read(self):
        for words in ROWS:
            shelf, small = Shelf(), SmallShelf(len(words))
            for word in words:
                shelf.put(word)
                small.put(word)
            for told in (shelf, small):
                self.assertEqual(told.hull(), free_hull(Stock(words)))
                self.assertEqual(read_stock(show_stock(told.stock())), Stock(words))
            found = two_readings(shelf.stock())
            if found is not None:
                text, first, second = found
                self.assertEqual(show_reading(shelf.stock(), first).replace(".", ""), text)
                self.assertEqual(joined(shelf.stock(), second), text)


class AnySequenceTest(PlainCase):
    """What was asked before changes no answer."""

    def calls(self):
        told = []
        for words, others in PAIRS[:6] + HARD_PAIRS[:2] + [(["a", "ab", "ba"], ["a", "b"]), (["a", "aa"], ["b"])]:
            stock, other = Stock(words), Stock(others)
            for ask in (
                free_hull, left_hull, right_hull, both_hull, base, cuts, rests, is_one_way, two_readings, agree_most,
                endless_rows, powers_of_one, show_stock,
            ):
                told.extend([(ask, (stock,)), (ask, (other,))])
            for ask in (first_common, longest_base, base_loop, lies_within):
                told.extend([(ask, (stock, other)), (ask, (other, stock))])
            for length in (-1, 0, 5, 12):
                told.append((count_texts, (stock, length)))
                told.append((nth_text, (stock, length, 1)))
                for ask in (count_common, count_base):
                    told.append((ask, (stock, other, length)))
                for ask in (nth_common, nth_base):
                    told.append((ask, (stock, other, length, 0)))
            for letters in (1, 2, 3):
                told.extend([(ask, (stock, letters)) for ask in (room, is_full, filling)])
                told.append((lost_word, (stock, letters, 6)))
            text = "".join(words)
            told.extend([(ask, (stock, text)) for ask in (is_text, count_readings, is_part, text_index)])
            told.append((nth_reading, (stock, text, 0)))
            told.append((reading_index, (stock, list(range(len(words))))))
            told.append((show_reading, (stock, [0, 0])))
            told.append((with_word, (stock, "zz")))
            told.append((without_word, (stock, words[0])))
            told.append((is_base_loop, (stock, other, ("a", "ba", "ba"))))
            told.append((root, (text,)))
            told.append((commute, (words[0], text)))
            told.append((read_stock, (" ".join(words),)))
        return told

    def answer(self, call):
        ask, told = call
        try:
            answer = ask(*told)
        except WordError as error:
            return type(error).__name__, error.value
        return answer.words if isinstance(answer, Stock) else answer

    def test_the_same_answers_in_any_sequence(self):
        calls = self.calls()
        answers = [self.answer(call) for call in calls]
        stocks = [[part.words for part in told if isinstance(part, Stock)] for _, told in calls]
        numbers = list(range(len(calls)))
        for seed in range(3):
            random.Random(seed).shuffle(numbers)
            for number in numbers:
                answer = self.answer(calls[number])
                self.assertEqual(answer, answers[number])
                self.assertIs(type(answer), type(answers[number]))
                if isinstance(answer, list):
                    # What the caller does with a list is the caller's own.
                    answer.append("changed")
        self.assertEqual([[part.words for part in told if isinstance(part, Stock)] for _, told in calls], stocks)

    def test_errors_change_nothing(self):
        stock = Stock(["a", "ba"])
        for _ in range(3):
            self.check_error(InvalidNumber, 99, nth_common, stock, stock, 3, 99)
            self.check_error(InvalidWord, "a", with_word, stock, "a")
            self.check_error(InvalidReading, 7, show_reading, stock, [0, 7])
            self.assertEqual(stock.words, ["a", "ba"])
            self.assertEqual(count_common(stock, stock, 4), 5)


if __name__ == "__main__":
    unittest.main()
