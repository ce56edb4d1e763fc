"""The texts of a stock that is read in one way: how many, which one, and where one stands."""

from wordhulls.errors import InvalidNumber, InvalidText
from wordhulls.made import is_made
from wordhulls.oneway import check_one_way


def counts_to(words, length):
    """Returns the list of how many texts of each length from 0 to a length the words have.

    Each text has one reading, so that it is counted once, by its last word.
    """
    many = [1]
    for longer in range(1, length + 1):
        many.append(sum([many[longer - len(word)] for word in words if len(word) <= longer]))
    return many


def count_texts(stock, length):
    """Returns how many texts of a length a stock has."""
    check_one_way(stock)
    check_length(length)
    return counts_to(stock.words, length)[length]


def check_length(length):
    """Raises InvalidNumber for a negative length."""
    if length < 0:
        raise InvalidNumber(length)


def letters_in(words):
    """Returns the sorted list of the letters of the words."""
    return sorted(set("".join(words)))


def ends_behind(words, ends, sign):
    """Returns the ends that can complete the last word, with one more letter ahead of them.

    The end "" is that of a whole word, behind which any word may begin.
    """
    begun = words if "" in ends else []
    return [end[1:] for end in ends + begun if end.startswith(sign)]


def count_completed(many, ends, length):
    """Returns in how many ways so many letters can follow that begin with one of the ends."""
    return sum([many[length - len(end)] for end in ends if len(end) <= length])


def nth_text(stock, length, index):
    """Returns the text of a length with an index among them, by the alphabet."""
    check_one_way(stock)
    check_length(length)
    words = stock.words
    many = counts_to(words, length)
    if not 0 <= index < many[length]:
        raise InvalidNumber(index)
    signs = []
    ends = [""]
    left = index
    for behind in reversed(range(length)):
        sign, left = letter_at_index(words, many, ends, behind, left)
        signs.append(sign)
        ends = ends_behind(words, ends, sign)
    return "".join(signs)


def letter_at_index(words, many, ends, behind, index):
    """Returns the next letter of the text with an index, if so many letters are behind it.

    With it stands the index of the text among those that have this letter there.
    """
    letters = letters_in(words)
    number = 0
    left = index
    count = count_completed(many, ends_behind(words, ends, letters[0]), behind)
    while left >= count:
        left -= count
        number += 1
        count = count_completed(many, ends_behind(words, ends, letters[number]), behind)
    return letters[number], left


def text_index(stock, text):
    """Returns the index of a text among those of its length, by the alphabet."""
    check_one_way(stock)
    words = stock.words
    if not is_made(words, text):
        raise InvalidText(text)
    many = counts_to(words, len(text))
    letters = letters_in(words)
    index = 0
    ends = [""]
    behind = len(text)
    for sign in text:
        behind -= 1
        less = [ends_behind(words, ends, letter) for letter in letters if letter < sign]
        index += sum([count_completed(many, told, behind) for told in less])
        ends = ends_behind(words, ends, sign)
    return index
