"""Points 2 to 4: roots of texts, and texts that commute."""

import unittest

from brute import EIGHT_POWERS, PlainCase, all_strings, small_rows, some_rows
from wordhulls import roots
from wordhulls.errors import InvalidText
from wordhulls.roots import commute, powers_of_one, root
from wordhulls.stocks import Stock

LETTERS = "abcdefghijklmnopqrstuvwxyz"
OTHER_TEXTS = [
    "A", "aA", " ", "a ", " a", "a\n", "\n", "a\ta", "a-a", "1", "a1", "`", "{", "\0", "\u00e4", "a\u00e4",
    "\u0430", "\uff41", "\ud800", "a" * 399 + "A", "A" * 400, "aAaA",
]


def plain_root(text):
    """The root by all lengths, each tried letter for letter."""
    for length in range(1, len(text) + 1):
        if len(text) % length == 0 and all(text[at] == text[at % length] for at in range(len(text))):
            return text[:length], len(text) // length


class RootTest(PlainCase):
    def check_root(self, text):
        told = root(text)
        self.assertEqual(told, plain_root(text))
        self.assertIs(type(told), tuple)
        self.assertEqual([type(part) for part in told], [str, int])

    def test_against_all_lengths(self):
        for text in list(all_strings("ab", 11, 1)) + list(all_strings("abc", 6, 1)):
            self.check_root(text)

    def test_some_roots(self):
        for text, wanted in (
            ("a", ("a", 1)), ("abab", ("ab", 2)), ("ababa", ("ababa", 1)), ("aaaa", ("a", 4)), ("z" * 400, ("z", 400)),
            ("abaaba", ("aba", 2)), ("abcabcabc", ("abc", 3)), (LETTERS, (LETTERS, 1)), (LETTERS * 15, (LETTERS, 15)),
        ):
            self.assertEqual(root(text), wanted)

    def test_long_texts(self):
        for length in (1, 2, 3, 4, 5, 8, 10, 16, 20, 25, 40, 50, 80, 100, 133, 199, 200, 399, 400):
            part = ("a" * (length - 1) + "b")[-length:]
            for letters in (part, ("ab" * length)[:length], ("aabab" * length)[:length]):
                text = letters * (400 // length)
                self.check_root(text)
                for at in (0, 1, len(text) // 2, len(text) - 1):
                    changed = text[:at] + "c" + text[at + 1:]
                    self.check_root(changed)
                    self.assertEqual(root(changed), (changed, 1))
        self.check_root("a" * 199 + "b" + "a" * 199 + "b")
        self.check_root("a" * 199 + "b" + "a" * 199 + "c")
        self.check_root("ab" * 199 + "a")

    def test_errors(self):
        self.check_error(InvalidText, "", root, "")
        for text in OTHER_TEXTS:
            self.check_error(InvalidText, text, root, text)


class CommuteTest(PlainCase):
    def test_against_both_sequences(self):
        told = list(all_strings("ab", 5))
        held = 0
        for one in told:
            for other in told:
                answer = commute(one, other)
                self.assertIs(answer, one + other == other + one)
                held += answer
        self.assertGreater(held, 3 * len(told))

    def test_empty_strings(self):
        for text in ("", "a", "abc", "z" * 400):
            self.assertIs(commute("", text), True)
            self.assertIs(commute(text, ""), True)

    def test_long_texts(self):
        self.assertIs(commute("ab" * 200, "ab" * 199), True)
        self.assertIs(commute("ab" * 200, "ab" * 199 + "a"), False)
        self.assertIs(commute("a" * 400, "a" * 399), True)
        self.assertIs(commute("a" * 400, "a" * 399 + "b"), False)
        self.assertIs(commute("ab", "ba"), False)

    def test_errors(self):
        for text in OTHER_TEXTS:
            self.check_error(InvalidText, text, commute, text, "ab")
            self.check_error(InvalidText, text, commute, "ab", text)
            self.check_error(InvalidText, text, commute, "", text)
            self.check_error(InvalidText, text, commute, text, "")
            self.check_error(InvalidText, text, commute, text, text)
        for one, other in zip(OTHER_TEXTS, OTHER_TEXTS[1:]):
            self.check_error(InvalidText, one, commute, one, other)


class PowersTest(PlainCase):
    def check_powers(self, words):
        wanted = len({plain_root(word)[0] for word in words}) == 1
        self.assertIs(powers_of_one(Stock(words)), wanted)

    def test_against_the_roots_of_all_words(self):
        for words in list(small_rows(3, 3)) + some_rows(111, 300, 4, 4) + some_rows(112, 50, 8, 8):
            self.check_powers(words)

    def test_some_stocks(self):
        for words, wanted in (
            (["a"], True), (["abab"], True), (["aa", "aaa"], True), (["aaa", "aa"], True), (EIGHT_POWERS, True),
            (["ab", "abab", "ababab", "abababab"], True), (["abab", "ababab"], True), (["ab", "ba"], False),
            (["a", "b"], False), (["a", "aa", "aaab"], False), (["b", "a", "aa"], False), (["abcabc", "abc"], True),
            (EIGHT_POWERS[:7] + ["b"], False), (["ab", "aba"], False),
        ):
            self.assertIs(powers_of_one(Stock(words)), wanted)
            self.assertIs(powers_of_one(Stock(words[::-1])), wanted)


class CallTest(PlainCase):
    def test_by_name(self):
        self.assertEqual(root(text="abab"), ("ab", 2))
        self.assertIs(commute(other="abab", one="ab"), True)
        self.assertIs(powers_of_one(stock=Stock(["aa", "aaa"])), True)
        self.check_error(InvalidText, "", root, text="")
        self.check_error(InvalidText, "A", commute, other="B", one="A")
        self.check_error(InvalidText, "B", commute, other="B", one="a")

    def test_all_are_defined_in_the_file_that_lists_them(self):
        for name in ("root", "commute", "powers_of_one"):
            self.assertEqual(getattr(roots, name).__module__, "wordhulls.roots", name)


if __name__ == "__main__":
    unittest.main()
