"""Stocks of words, and the texts that their readings make."""

from wordhulls.errors import InvalidNumber, InvalidReading, InvalidWord
from wordhulls.letters import is_word

MOST_WORDS = 8


class Stock:
    """One to eight unlike words in a sequence; a stock never changes."""

    def __init__(self, words):
        check_words(words)
        self._words = tuple(words)

    def __eq__(self, other):
        return isinstance(other, Stock) and self._words == other._words

    @property
    def words(self):
        """The words, in a list of the caller's own."""
        return list(self._words)


def check_words(words):
    """The Stock check."""
    seen = set()
    for word in words:
        if not is_word(word) or word in seen:
            raise InvalidWord(word)
        seen.add(word)
    if not 1 <= len(words) <= MOST_WORDS:
        raise InvalidNumber(len(words))


def check_reading(stock, reading):
    """The Reading check."""
    many = len(stock.words)
    for number in reading:
        if not 0 <= number < many:
            raise InvalidReading(number)


def joined(stock, reading):
    """Returns the text that a reading makes."""
    check_reading(stock, reading)
    words = stock.words
    return "".join([words[number] for number in reading])


def with_word(stock, word):
    """Returns the stock with a word behind the others."""
    return Stock(stock.words + [word])


def without_word(stock, word):
    """Returns the stock without a word."""
    words = stock.words
    if word not in words:
        raise InvalidWord(word)
    # If no word is left, the Stock check raises the InvalidNumber(0) that is due here.
    return Stock([other for other in words if other != word])
