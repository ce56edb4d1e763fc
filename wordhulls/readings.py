"""The readings of a text: how many, which one, and where one stands among them."""

from wordhulls.errors import InvalidNumber
from wordhulls.letters import check_text
from wordhulls.stocks import joined


def ways_with(word, text, place, ways):
    """Returns how many readings of the text from a place on begin with a word.

    ways[k] is how many readings the text has from k on, for each k behind the place.
    """
    if text.startswith(word, place):
        return ways[place + len(word)]
    return 0


def all_ways(words, text):
    """Returns the list of how many readings the text has from each place on."""
    ways = [0] * len(text) + [1]
    for place in reversed(range(len(text))):
        ways[place] = sum([ways_with(word, text, place, ways) for word in words])
    return ways


def count_readings(stock, text):
    """Returns how many readings a text has."""
    check_text(text)
    return all_ways(stock.words, text)[0]


def is_text(stock, text):
    """Tells whether a string of letters is a text of the stock."""
    return count_readings(stock, text) > 0


def nth_reading(stock, text, index):
    """Returns the reading with an index among those of a text."""
    check_text(text)
    words = stock.words
    ways = all_ways(words, text)
    if not 0 <= index < ways[0]:
        raise InvalidNumber(index)
    reading = []
    place = 0
    left = index
    while place < len(text):
        number, left = word_at_index(words, text, place, ways, left)
        reading.append(number)
        place += len(words[number])
    return reading


def word_at_index(words, text, place, ways, index):
    """Returns the first number of the reading with an index, of the text from a place on.

    Behind it stands the index of its rest among the readings that begin with this number.
    """
    number = 0
    left = index
    many = ways_with(words[0], text, place, ways)
    while left >= many:
        left -= many
        number += 1
        many = ways_with(words[number], text, place, ways)
    return number, left


def reading_index(stock, reading):
    """Returns the index of a reading among those of the text that it makes."""
    text = joined(stock, reading)
    words = stock.words
    ways = all_ways(words, text)
    index = 0
    place = 0
    for number in reading:
        index += sum([ways_with(word, text, place, ways) for word in words[:number]])
        place += len(words[number])
    return index
