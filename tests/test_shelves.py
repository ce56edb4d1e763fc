"""Points 2 to 5: shelves of words, and the calls that are taken back."""

import random
import unittest

from brute import EIGHT_POWERS, PlainCase
from wordhulls import shelves
from wordhulls.errors import InvalidNumber, InvalidWord, NothingToUndo, TooMany
from wordhulls.hulls import free_hull
from wordhulls.shelves import Shelf, SmallShelf
from wordhulls.stocks import Stock

HUGE = 10 ** 400
NO_WORDS = ["", "A", "aB", "abcdefghi", "a" * 400, " ", "a b", "a\n", "1", "\u00e4", "-", "a\0", "\ud800"]


class Model:
    """What a shelf is to hold, by plain lists; each refused call is told as (error class, value)."""

    def __init__(self, most=None):
        self.most = most
        self.words, self.story, self.ahead = [], [], []

    def no_word(self, word):
        letters = all("a" <= sign <= "z" for sign in word)
        return not letters or not 1 <= len(word) <= 8 or word in self.words

    def refused(self, call):
        name, told = call[0], call[1:]
        if name == "undo":
            return None if self.story else (NothingToUndo, 0)
        if name == "put":
            many = len(self.words) + 1
            if self.no_word(told[0]):
                return InvalidWord, told[0]
            if many == 9 or self.most is not None and many > self.most:
                return TooMany, many
            return None
        if told[0] not in self.words:
            return InvalidWord, told[0]
        if name == "swap" and self.no_word(told[1]):
            return InvalidWord, told[1]
        return None

    def go(self, call):
        if call == ("undo",):
            self.story.pop()
            self.words = self.ahead.pop()
            return
        self.ahead.append(list(self.words))
        self.story.append(call)
        if call[0] == "put":
            self.words = self.words + [call[1]]
        else:
            at = self.words.index(call[1])
            self.words = self.words[:at] + list(call[2:]) + self.words[at + 1:]


class ShelfCase(PlainCase):
    def check_shelf(self, shelf, words, story):
        self.assertEqual(shelf.words, words)
        self.assertIs(type(shelf.words), list)
        self.assertEqual(len(shelf), len(words))
        self.assertEqual(shelf.story(), story)
        self.assertIs(type(shelf.story()), list)
        self.assertEqual([type(call) for call in shelf.story()], [tuple] * len(story))
        if words:
            self.assertEqual(shelf.stock(), Stock(words))
        else:
            self.check_error(InvalidNumber, 0, shelf.stock)
            self.assertEqual(shelf.hull(), [])

    def check_call(self, shelf, model, call):
        refused = model.refused(call)
        if refused is None:
            self.assertIsNone(getattr(shelf, call[0])(*call[1:]))
            model.go(call)
        else:
            self.check_error(*refused, getattr(shelf, call[0]), *call[1:])
        self.check_shelf(shelf, model.words, model.story)
        return refused

    def filled(self, words, most=None):
        shelf = Shelf() if most is None else SmallShelf(most)
        for word in words:
            shelf.put(word)
        return shelf


class ShelfTest(ShelfCase):
    def test_at_first(self):
        shelf = Shelf()
        self.check_shelf(shelf, [], [])
        self.check_error(NothingToUndo, 0, shelf.undo)
        self.check_error(InvalidWord, "a", shelf.take, "a")
        self.check_error(InvalidWord, "a", shelf.swap, "a", "b")
        self.check_shelf(shelf, [], [])

    def test_each_call(self):
        shelf, model = Shelf(), Model()
        for call in (
            ("put", "ab"), ("put", "a"), ("put", "ba"), ("swap", "a", "bb"), ("take", "ab"), ("put", "ab"), ("undo",),
            ("undo",), ("undo",), ("swap", "ab", "zz"), ("swap", "ba", "ab"), ("take", "zz"), ("take", "ab"),
            ("take", "a"), ("undo",), ("put", "zz"), ("undo",), ("undo",),
        ):
            self.assertIsNone(self.check_call(shelf, model, call))

    def test_a_swapped_word_stands_in_the_place_of_the_other_one(self):
        shelf = self.filled(["a", "b", "c"])
        shelf.swap("b", "x")
        self.assertEqual(shelf.words, ["a", "x", "c"])
        shelf.swap("a", "b")
        self.assertEqual(shelf.words, ["b", "x", "c"])
        shelf.undo()
        self.assertEqual(shelf.words, ["a", "x", "c"])

    def test_a_taken_word_comes_back_to_its_place(self):
        shelf = self.filled(["a", "b", "c"])
        shelf.take("a")
        self.assertEqual(shelf.words, ["b", "c"])
        shelf.undo()
        self.assertEqual(shelf.words, ["a", "b", "c"])
        shelf.take("b")
        shelf.put("b")
        self.assertEqual(shelf.words, ["a", "c", "b"])
        shelf.undo()
        shelf.undo()
        self.assertEqual(shelf.words, ["a", "b", "c"])

    def test_all_calls_are_taken_back(self):
        shelf = self.filled(["a", "b", "c"])
        for many in (2, 1, 0):
            self.assertIsNone(shelf.undo())
            self.check_shelf(shelf, ["a", "b", "c"][:many], [("put", "a"), ("put", "b"), ("put", "c")][:many])
        for _ in range(3):
            self.check_error(NothingToUndo, 0, shelf.undo)
        shelf.put("z")
        self.check_shelf(shelf, ["z"], [("put", "z")])

    def test_refused_calls_are_not_taken_back(self):
        shelf = self.filled(["a", "b"])
        self.check_error(InvalidWord, "a", shelf.put, "a")
        self.check_error(InvalidWord, "c", shelf.take, "c")
        self.check_error(InvalidWord, "b", shelf.swap, "a", "b")
        self.check_shelf(shelf, ["a", "b"], [("put", "a"), ("put", "b")])
        shelf.undo()
        self.check_shelf(shelf, ["a"], [("put", "a")])

    def test_eight_words(self):
        shelf = self.filled(EIGHT_POWERS)
        for word in ("b", "ab", "zzzzzzzz"):
            self.check_error(TooMany, 9, shelf.put, word)
        for word in NO_WORDS + EIGHT_POWERS:
            self.check_error(InvalidWord, word, shelf.put, word)
        shelf.swap("a", "b")
        self.assertEqual(shelf.words, ["b"] + EIGHT_POWERS[1:])
        shelf.take("aaa")
        shelf.put("a")
        self.assertEqual(len(shelf), 8)
        self.check_error(TooMany, 9, shelf.put, "c")

    def test_what_is_no_word(self):
        shelf = self.filled(["a", "ab"])
        for word in NO_WORDS:
            self.check_error(InvalidWord, word, shelf.put, word)
            self.check_error(InvalidWord, word, shelf.take, word)
            self.check_error(InvalidWord, word, shelf.swap, "a", word)
            self.check_error(InvalidWord, word, shelf.swap, word, "b")
        self.check_shelf(shelf, ["a", "ab"], [("put", "a"), ("put", "ab")])

    def test_swap_asks_for_the_word_that_is_not_there_first(self):
        shelf = self.filled(["a", "ab"])
        for word in ("b", "c", "zz"):
            for other in NO_WORDS + ["a", "ab", "b", "c", word]:
                self.check_error(InvalidWord, word, shelf.swap, word, other)
        for word in ("a", "ab"):
            for other in NO_WORDS + ["a", "ab"]:
                self.check_error(InvalidWord, other, shelf.swap, word, other)
        self.check_shelf(shelf, ["a", "ab"], [("put", "a"), ("put", "ab")])

    def test_hulls(self):
        shelf = Shelf()
        self.assertEqual(shelf.hull(), [])
        for word, wanted in (("ab", ["ab"]), ("a", ["a", "ab"]), ("ba", ["a", "b"]), ("cc", ["a", "b", "cc"])):
            shelf.put(word)
            self.assertEqual(shelf.hull(), wanted)
        shelf.take("ba")
        self.assertEqual(shelf.hull(), ["a", "ab", "cc"])
        for word in ("ab", "a", "cc"):
            shelf.take(word)
        self.assertEqual(shelf.hull(), [])

    def test_told_lists_can_be_changed(self):
        shelf = self.filled(["ab", "a", "ba"])
        for ask in (lambda: shelf.words, shelf.story, shelf.hull, lambda: shelf.stock().words):
            before = list(ask())
            told = ask()
            told.append("changed")
            told.reverse()
            self.assertEqual(ask(), before)
            self.assertIsNot(ask(), ask())
        shelf.words.clear()
        shelf.story().clear()
        self.check_shelf(shelf, ["ab", "a", "ba"], [("put", "ab"), ("put", "a"), ("put", "ba")])
        empty = Shelf()
        for ask in (lambda: empty.words, empty.story, empty.hull):
            ask().append("changed")
            self.assertEqual(ask(), [])

    def test_stocks_do_not_change_with_the_shelf(self):
        shelf = self.filled(["a", "b"])
        stock = shelf.stock()
        self.assertIs(type(stock), Stock)
        shelf.take("a")
        self.assertEqual(stock, Stock(["a", "b"]))
        self.assertEqual(shelf.stock(), Stock(["b"]))

    def test_shelves_do_not_share(self):
        one, other = Shelf(), Shelf()
        one.put("a")
        self.check_shelf(other, [], [])
        other.put("b")
        self.check_shelf(one, ["a"], [("put", "a")])


class RowTest(ShelfCase):
    WORDS = ["a", "b", "ab", "ba", "bb", "abc", "c", "cc", "ca", "bca", "aab", "abcdefgh"]

    def some_call(self, source, model, puts):
        words = self.WORDS + model.words * 3
        name = source.choice(["put"] * puts + ["take", "swap", "swap", "undo", "undo"])
        if source.random() < 0.1:
            words = NO_WORDS + model.words
        told = [source.choice(words) for _ in range({"put": 1, "take": 1, "swap": 2, "undo": 0}[name])]
        return (name, *told)

    def check_row(self, seed, most=None):
        source = random.Random(seed)
        shelf = Shelf() if most is None else SmallShelf(most)
        model = Model(most)
        refused = {}
        for step in range(100):
            told = self.check_call(shelf, model, self.some_call(source, model, 3 + seed % 3 * 6))
            name = told and told[0].__name__
            refused[name] = refused.get(name, 0) + 1
            if step % 10 == 0:
                self.assertEqual(shelf.hull(), free_hull(Stock(model.words)) if model.words else [])
        return refused

    def test_rows_of_calls(self):
        held = {}
        for seed in range(60):
            for name, many in self.check_row(seed).items():
                held[name] = held.get(name, 0) + many
        self.assertEqual(set(held), {None, "InvalidWord", "TooMany", "NothingToUndo"})

    def test_rows_of_calls_on_small_shelves(self):
        for most in (0, 1, 2, 3, 5, 7, 8, 9, HUGE):
            for seed in range(8):
                self.check_row(1000 + seed, most)


class SmallShelfTest(ShelfCase):
    def test_it_is_a_shelf(self):
        self.assertTrue(issubclass(SmallShelf, Shelf))
        self.assertIsInstance(SmallShelf(3), Shelf)
        self.check_shelf(SmallShelf(3), [], [])

    def test_negative_most(self):
        for most in (-1, -2, -8, -HUGE):
            self.check_error(InvalidNumber, most, SmallShelf, most)
        for most in (0, 1, 8, 9, HUGE):
            self.assertEqual(len(SmallShelf(most)), 0)

    def test_how_many_there_would_be(self):
        for most in range(8):
            shelf = self.filled(EIGHT_POWERS[:most], most)
            story = [("put", word) for word in EIGHT_POWERS[:most]]
            for word in ("b", "ab"):
                self.check_error(TooMany, most + 1, shelf.put, word)
            for word in NO_WORDS + EIGHT_POWERS[:most]:
                self.check_error(InvalidWord, word, shelf.put, word)
            self.check_shelf(shelf, EIGHT_POWERS[:most], story)
        for most in (8, 9, 400, HUGE):
            shelf = self.filled(EIGHT_POWERS, most)
            self.check_error(TooMany, 9, shelf.put, "b")
            self.check_error(InvalidWord, "a", shelf.put, "a")

    def test_full_shelves_take_swap_and_undo(self):
        shelf = self.filled(["a", "b"], 2)
        shelf.swap("a", "c")
        self.assertEqual(shelf.words, ["c", "b"])
        shelf.take("c")
        shelf.put("z")
        self.check_error(TooMany, 3, shelf.put, "y")
        shelf.undo()
        shelf.undo()
        self.assertEqual(shelf.words, ["c", "b"])
        self.check_error(TooMany, 3, shelf.put, "y")
        shelf.undo()
        shelf.undo()
        shelf.put("y")
        self.check_shelf(shelf, ["a", "y"], [("put", "a"), ("put", "y")])
        self.assertEqual(shelf.hull(), ["a", "y"])
        self.assertEqual(shelf.stock(), Stock(["a", "y"]))

    def test_no_word_at_all(self):
        shelf = SmallShelf(0)
        self.check_error(TooMany, 1, shelf.put, "a")
        self.check_error(InvalidWord, "A", shelf.put, "A")
        self.check_error(NothingToUndo, 0, shelf.undo)
        self.check_shelf(shelf, [], [])


class EqualTest(ShelfCase):
    def check_equal(self, one, other, wanted):
        self.assertIs(one == other, wanted)
        self.assertIs(other == one, wanted)
        self.assertIs(one != other, not wanted)
        self.assertIs(other != one, not wanted)

    def test_stories(self):
        self.check_equal(Shelf(), Shelf(), True)
        self.check_equal(self.filled(["a", "b"]), self.filled(["a", "b"]), True)
        self.check_equal(self.filled(["a", "b"]), self.filled(["b", "a"]), False)
        self.check_equal(self.filled(["a", "b"]), self.filled(["a"]), False)
        self.check_equal(self.filled(["a"]), Shelf(), False)

    def test_the_same_words_by_other_stories(self):
        one, other = self.filled(["a", "b"]), self.filled(["a", "c"])
        other.swap("c", "b")
        self.assertEqual(one.words, other.words)
        self.check_equal(one, other, False)
        other.undo()
        other.undo()
        other.put("b")
        self.check_equal(one, other, True)
        one.take("b")
        one.put("b")
        self.check_equal(one, other, False)

    def test_taken_back_calls_and_refused_ones_do_not_count(self):
        one, other = self.filled(["a"]), self.filled(["a"])
        one.put("b")
        one.undo()
        self.check_error(InvalidWord, "a", one.put, "a")
        self.check_equal(one, other, True)

    def test_limits(self):
        for words in ([], ["a"], ["a", "b"]):
            self.check_equal(self.filled(words, 3), self.filled(words, 3), True)
            self.check_equal(self.filled(words, 3), self.filled(words, 4), False)
            self.check_equal(self.filled(words, 8), self.filled(words, 9), False)
            for most in (3, 8, 9, HUGE):
                self.check_equal(self.filled(words), self.filled(words, most), False)
        self.check_equal(SmallShelf(0), Shelf(), False)
        self.check_equal(SmallShelf(0), SmallShelf(0), True)
        self.check_equal(self.filled(["a"], 3), self.filled(["b"], 3), False)

    def test_anything_else(self):
        told = self.filled(["a", "b"])
        for shelf in (Shelf(), SmallShelf(0), told):
            for other in (
                None, 0, 1, "", "a", [], (), {}, ["a", "b"], told.words, told.story(), told.stock(), Shelf, object(),
                Stock(["a", "b"]), Model(),
            ):
                self.check_equal(shelf, other, False)


class CallTest(ShelfCase):
    def test_by_name(self):
        shelf = SmallShelf(most=3)
        self.assertIsNone(shelf.put(word="a"))
        self.assertIsNone(shelf.put(word="b"))
        self.assertIsNone(shelf.swap(other="c", word="a"))
        self.assertIsNone(shelf.take(word="b"))
        self.check_shelf(shelf, ["c"], [("put", "a"), ("put", "b"), ("swap", "a", "c"), ("take", "b")])
        shelf = Shelf()
        self.assertIsNone(shelf.put(word="a"))
        self.assertIsNone(shelf.swap(other="c", word="a"))
        self.assertIsNone(shelf.take(word="c"))
        self.assertIsNone(shelf.undo())
        self.check_error(InvalidNumber, -1, SmallShelf, most=-1)
        self.check_error(InvalidWord, "z", shelf.take, word="z")
        self.check_error(InvalidWord, "z", shelf.swap, other="", word="z")
        self.check_error(InvalidWord, "c", shelf.put, word="c")

    def test_listed_methods_stand_in_the_class_itself(self):
        for name in ("put", "take", "swap", "undo", "stock", "hull", "story", "words", "__len__", "__eq__", "__init__"):
            self.assertIn(name, vars(Shelf))
        self.assertIsInstance(vars(Shelf)["words"], property)
        for name in ("put", "__init__"):
            self.assertIn(name, vars(SmallShelf))
        for told in (Shelf, SmallShelf):
            self.assertEqual(told.__module__, shelves.__name__)


if __name__ == "__main__":
    unittest.main()
