"""Roots: the strings of which texts are powers, run together with themselves."""

from wordhulls.errors import InvalidText
from wordhulls.letters import check_text


def root(text):
    """Returns the tuple (word, number) of the shortest string which, so many times, is a text."""
    if text == "":
        raise InvalidText(text)
    check_text(text)
    length = 1
    while not is_power(text, length):
        length += 1
    return text[:length], len(text) // length


def is_power(text, length):
    """Tells whether so many first letters of a text make all of it, some number of times."""
    return text[:length] * (len(text) // length) == text


def commute(one, other):
    """Tells whether two strings of letters make the same run together in both sequences."""
    check_text(one)
    check_text(other)
    return one + other == other + one


def powers_of_one(stock):
    """Tells whether all words are one string some number of times."""
    roots = [root(word)[0] for word in stock.words]
    return all([told == roots[0] for told in roots])
