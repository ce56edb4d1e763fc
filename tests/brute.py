"""Plain ways to find what the program finds, for small stocks; the tests compare both."""

import functools
import itertools
import random
import unittest

EIGHT_POWERS = ["a" * length for length in range(1, 9)]


class PlainCase(unittest.TestCase):
    def check_error(self, error_class, value, function, /, *told, **named):
        with self.assertRaises(error_class) as caught:
            function(*told, **named)
        self.assertIs(type(caught.exception), error_class)
        self.assertEqual(caught.exception.value, value)
        self.assertIs(type(caught.exception.value), type(value))


def all_strings(letters, most, least=0):
    """All strings of so many letters, by length and the alphabet."""
    for length in range(least, most + 1):
        for signs in itertools.product(letters, repeat=length):
            yield "".join(signs)


def small_rows(most_words, longest, letters="ab"):
    """All rows of at most so many unlike words of at most so many letters, sorted by the alphabet."""
    words = sorted(all_strings(letters, longest, 1))
    for many in range(1, most_words + 1):
        for row in itertools.combinations(words, many):
            yield list(row)


def some_rows(seed, many, most_words, longest, letters="ab"):
    """So many rows of words, always the same ones for a seed, in any sequence."""
    source = random.Random(seed)
    rows = []
    while len(rows) < many:
        row = []
        for _ in range(source.randint(1, most_words)):
            word = "".join([source.choice(letters) for _ in range(source.randint(1, longest))])
            if word not in row:
                row.append(word)
        rows.append(row)
    return rows


def all_readings(words, most):
    """The sorted readings of all texts of at most so many letters, by these texts."""
    found = {}
    ahead = [("", [])]
    while ahead:
        text, reading = ahead.pop()
        found.setdefault(text, []).append(reading)
        for number, word in enumerate(words):
            if len(text) + len(word) <= most:
                ahead.append((text + word, reading + [number]))
    return {text: sorted(rows) for text, rows in found.items()}


def all_texts(words, most):
    """The texts of at most so many letters, by length and the alphabet."""
    return sorted(all_readings(words, most), key=shortlex)


def shortlex(text):
    return len(text), text


def made(words, text):
    """Whether words make a text, each taken away from its beginning."""
    seen, ahead = set(), [text]
    while ahead:
        rest = ahead.pop()
        if rest == "":
            return True
        if rest not in seen:
            seen.add(rest)
            ahead.extend([rest[len(word):] for word in words if rest.startswith(word)])
    return False


@functools.lru_cache(maxsize=None)
def one_way(words):
    """Whether a tuple of words is read in one way, by levels of what is left over."""

    def behind(ones, others):
        return {other[len(one):] for one in ones for other in others if other.startswith(one)}

    level = behind(words, words) - {""}
    seen = set()
    while level and not level <= seen:
        seen |= level
        level = behind(words, level) | behind(level, words)
        if "" in level:
            return False
    return True


def is_from_left(words):
    return not any(one != other and other.startswith(one) for one in words for other in words)


def is_from_right(words):
    return not any(one != other and other.endswith(one) for one in words for other in words)


def is_from_both(words):
    return is_from_left(words) and is_from_right(words)


def parts(words):
    """All parts of words, not empty, sorted."""
    found = set()
    for word in words:
        for start in range(len(word)):
            for end in range(start + 1, len(word) + 1):
                found.add(word[start:end])
    return sorted(found)


def sets_that_make(words, most=None):
    """All sorted tuples of parts of words of which all words are texts."""
    told = parts(words)
    for many in range(1, (most or len(told)) + 1):
        for row in itertools.combinations(told, many):
            if all(made(row, word) for word in words):
                yield row


def least_twofold(words, most):
    """The least text of at most so many letters with two readings, from length to length.

    rows[length] tells for each rest the least text of this length of which one row of
    words makes all, and another one, that begins unlike, all but the rest.
    """
    rows = [{} for _ in range(most + 9)]
    for one in words:
        for other in words:
            if one != other and other.startswith(one):
                put(rows[len(other)], other[len(one):], other)
    for length in range(most + 1):
        row = rows[length]
        for size in range(8, 0, -1):
            for rest in sorted(rest for rest in row if len(rest) == size):
                spread(words, rows, row, rest)
        if "" in row:
            return row[""]
    return None


def spread(words, rows, row, rest):
    text = row[rest]
    for word in words:
        if rest.startswith(word):
            put(row, rest[len(word):], text)
        elif word.startswith(rest):
            longer = text + word[len(rest):]
            put(rows[len(longer)], word[len(rest):], longer)


def put(row, rest, text):
    if rest not in row or text < row[rest]:
        row[rest] = text


def most_alike(words, most):
    """How many first letters two texts of at most so many letters have alike, that begin unlike."""
    begun = [set() for _ in words]
    ahead = [(number, word) for number, word in enumerate(words)]
    seen = set()
    while ahead:
        number, text = ahead.pop()
        if len(text) <= most and (number, text) not in seen:
            seen.add((number, text))
            begun[number].update(text[:end] for end in range(len(text) + 1))
            ahead.extend([(number, text + word) for word in words])
    longest = 0
    for one, other in itertools.combinations(begun, 2):
        longest = max([longest] + [len(text) for text in one & other])
    return longest


def code_rows(rows):
    """Those of the rows of words that are read in one way."""
    return [words for words in rows if one_way(tuple(words))]


def some_pairs(seed, many, rows):
    """So many pairs of rows, always the same ones for a seed."""
    source = random.Random(seed)
    return [(source.choice(rows), source.choice(rows)) for _ in range(many)]


def by_length(texts, most):
    """The texts in one sorted list for each length to the most."""
    rows = [[] for _ in range(most + 1)]
    for text in texts:
        rows[len(text)].append(text)
    return [sorted(row) for row in rows]


def common_of(words, others, most):
    """The texts of at most so many letters of both rows of words, by length and the alphabet."""
    return sorted(set(all_texts(words, most)) & set(all_texts(others, most)), key=shortlex)


def base_of(texts):
    """Those of the texts, by length and the alphabet, that are not empty nor made of shorter ones."""
    found = []
    for text in texts:
        if text != "" and not made(found, text):
            found.append(text)
    return found


def cut_places(words, text):
    """The places at which a word ends or begins in the one reading of a text, None if it is no text."""
    ahead = [{0}] + [None] * len(text)
    for end in range(1, len(text) + 1):
        for word in words:
            start = end - len(word)
            if start >= 0 and text[start:end] == word and ahead[start] is not None:
                ahead[end] = ahead[start] | {end}
    return ahead[len(text)]


def is_base_word(words, others, text):
    """Whether both rows of words have a text and meet at its two ends only."""
    one, other = cut_places(words, text), cut_places(others, text)
    return text != "" and one is not None and other is not None and one & other == {0, len(text)}


class LetterPairs:
    """Common texts, letter by letter, by what is left of the last word of each of two rows.

    If they are to meet once, nothing goes on behind the first end of words of both.
    """

    def __init__(self, words, others, once):
        self.words, self.others, self.once = words, others, once
        self.rows, self.told = {}, {}

    def behind(self, pair):
        if pair not in self.told:
            end, other_end = pair
            self.told[pair] = [
                (one[1:], other[1:])
                for one in ([end] if end else self.words)
                for other in ([other_end] if other_end else self.others)
                if one[0] == other[0]
            ]
        return self.told[pair]

    def behind_letter(self, pair, letter):
        end, other_end = pair
        return [
            (one[1:], other[1:])
            for one in ([end] if end else self.words)
            for other in ([other_end] if other_end else self.others)
            if one[0] == other[0] == letter
        ]

    def going(self, pairs):
        return [pair for pair in pairs if pair != ("", "")] if self.once else pairs

    def ways(self, pair, left):
        """How many ways so many letters can follow a pair."""
        if left == 0:
            return 1 if pair == ("", "") else 0
        if (pair, left) not in self.rows:
            told = self.behind(pair)
            if left > 1:
                told = self.going(told)
            self.rows[pair, left] = sum([self.ways(behind, left - 1) for behind in told])
        return self.rows[pair, left]

    def counts(self, most):
        """How many there are of each length to the most."""
        told = [0 if self.once else 1]
        row = {("", ""): 1}
        for _ in range(most):
            longer = {}
            for pair, many in row.items():
                for behind in self.behind(pair):
                    longer[behind] = longer.get(behind, 0) + many
            told.append(longer.get(("", ""), 0))
            row = {pair: longer[pair] for pair in self.going(list(longer))}
        return told

    def rank(self, text):
        """How many as long ones stand ahead of a text by the alphabet."""
        letters = sorted(set("".join(self.words)))
        told = 0
        pairs = [("", "")]
        for place, sign in enumerate(text):
            left = len(text) - place - 1
            for letter in letters:
                longer = [behind for pair in pairs for behind in self.behind_letter(pair, letter)]
                if left > 0:
                    longer = self.going(longer)
                if letter == sign:
                    pairs = longer
                    break
                told += sum([self.ways(pair, left) for pair in longer])
        return told

    def longest(self):
        """The greatest length there is, 0 if there is none, None if there is no greatest one."""
        seen, ahead = set(), [("", "")]
        while ahead:
            pair = ahead.pop()
            if pair not in seen:
                seen.add(pair)
                ahead.extend(self.going(self.behind(pair)))
        # What is as long as there are pairs comes to one twice, and may have a ring more or less.
        told = [length for length, many in enumerate(self.counts(2 * len(seen) + 2)) if many and length]
        if told and told[-1] > len(seen) + 1:
            return None
        return max(told, default=0)
