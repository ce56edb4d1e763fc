"""Hulls: the least sets of words, each of its manner, of which the words of a stock are made."""

from wordhulls.cuts import after_cuts, cuts, words_behind
from wordhulls.made import is_made


def free_hull(stock):
    """Returns the sorted list of the words of the hull for reading in one way."""
    return after_cuts(stock, cuts(stock))


def left_hull(stock):
    """Returns the sorted list of the words of the hull for reading at once from the left."""
    return sorted(apart_from_left(stock.words))


def right_hull(stock):
    """Returns the sorted list of the words of the hull for reading at once from the right."""
    return sorted(apart_from_right(stock.words))


def both_hull(stock):
    """Returns the sorted list of the words of the hull for reading at once from both ends."""
    ahead = []
    words = stock.words
    # To take words apart from one end can make some that are not apart from the other one.
    while sorted(words) != sorted(ahead):
        ahead = words
        words = apart_from_right(apart_from_left(words))
    return sorted(words)


def apart_from_left(words):
    """Returns the words of the hull for reading at once from the left.

    What a word has behind another one is a text of each set of this manner that makes both.
    """
    told = words
    pair = first_pair(told)
    while pair is not None:
        word, begin = pair
        told = words_behind(told, word, begin)
        pair = first_pair(told)
    return told


def apart_from_right(words):
    """Returns the words of the hull for reading at once from the right."""
    return backwards(apart_from_left(backwards(words)))


def first_pair(words):
    """Returns the first word that another one begins, and this one; None if there is none."""
    for word in words:
        for begin in words:
            if word != begin and word.startswith(begin):
                return word, begin
    return None


def backwards(words):
    """Returns the words, each written backwards."""
    return [word[::-1] for word in words]


def base(stock):
    """Returns the list of the words, in their sequence, that are not texts of the other words."""
    words = stock.words
    return [word for word in words if not is_made(without(words, word), word)]


def without(words, word):
    """Returns the other words."""
    return [other for other in words if other != word]


def lies_within(stock, other):
    """Tells whether all texts of a stock are texts of another one."""
    others = other.words
    return all([is_made(others, word) for word in stock.words])
