"""Cuts: the forced steps from a set of words to its free hull."""

from wordhulls.errors import InvalidNumber
from wordhulls.made import is_made
from wordhulls.oneway import is_one_way, two_readings
from wordhulls.stocks import Stock


def words_behind(words, word, begin):
    """Returns the words with what a word has behind another one in its place."""
    rest = word[len(begin):]
    return [other for other in words if other != word and other != rest] + [rest]


def cuts(stock):
    """Returns a list of cuts behind which the stock is read in one way.

    Each cut takes letters away, and words have at most 64 together, so that the cuts come to an end.
    """
    words = stock.words
    steps = []
    found = two_readings(stock)
    while found is not None:
        text, first, second = found
        word, begin = longer_first(words[first[0]], words[second[0]])
        steps.append((word, begin, text))
        words = words_behind(words, word, begin)
        found = two_readings(Stock(words))
    return steps


def longer_first(one, other):
    """Returns two words of unlike lengths, the longer one first."""
    if len(one) > len(other):
        return one, other
    return other, one


def is_cut(words, value):
    """Tells whether any value is a cut of a set of words."""
    if type(value) != tuple or len(value) != 3:
        return False
    if not all([type(part) == str for part in value]):
        return False
    word, begin, text = value
    if word not in words or begin not in words or word == begin or not word.startswith(begin):
        return False
    return is_made_from(words, word, text) and is_made_from(words, begin, text)


def is_made_from(words, first, text):
    """Tells whether a string has a reading that begins with one of the words."""
    return text.startswith(first) and is_made(words, text[len(first):])


def follow(words, steps):
    """Returns the words behind the cuts up to the first step that is none, and the number of these."""
    told = words
    number = 0
    while number < len(steps) and is_cut(told, steps[number]):
        word, begin, _ = steps[number]
        told = words_behind(told, word, begin)
        number += 1
    return told, number


def are_cuts(stock, value):
    """Tells whether any value is a list of cuts behind which the stock is read in one way."""
    if type(value) != list:
        return False
    words, number = follow(stock.words, value)
    return number == len(value) and is_one_way(Stock(words))


def after_cuts(stock, steps):
    """Returns the sorted list of the words behind a list of cuts."""
    words, number = follow(stock.words, steps)
    if number < len(steps):
        raise InvalidNumber(number)
    return sorted(words)
