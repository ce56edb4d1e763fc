"""How much room words leave, what fills it, and what is part of no text."""

from math import gcd

from wordhulls.counts import ends_behind
from wordhulls.errors import InvalidNumber, NotApart
from wordhulls.letters import LETTERS, MOST_LETTERS, check_text
from wordhulls.oneway import beginning_pairs, check_one_way


def check_letters(stock, letters):
    """The Letters check."""
    if not 1 <= letters <= len(LETTERS):
        raise InvalidNumber(letters)
    told = LETTERS[:letters]
    if not all([sign in told for word in stock.words for sign in word]):
        raise InvalidNumber(letters)


def room(stock, letters):
    """Returns the sum, over the words, of 1 by letters to the power of the length of the word."""
    check_letters(stock, letters)
    powers = [letters ** exponent for exponent in range(9)]
    bottom = powers[MOST_LETTERS]
    top = sum([powers[MOST_LETTERS - len(word)] for word in stock.words])
    shared = gcd(top, bottom)
    return top // shared, bottom // shared


def is_full(stock, letters):
    """Tells whether the words leave no room, as those of a full set read in one way do."""
    told = room(stock, letters)
    check_one_way(stock)
    return told == (1, 1)


def filling(stock, letters):
    """Returns the sorted list of the shortest strings of the letters that neither begin a word nor have one ahead.

    All that is ahead of the last letter of such a string begins a word.
    """
    check_letters(stock, letters)
    words = stock.words
    pairs = beginning_pairs(words)
    if pairs:
        begin, number = pairs[0]
        raise NotApart((words[begin], words[number]))
    begins = sorted({word[:end] for word in words for end in range(len(word))})
    told = [begin + sign for begin in begins for sign in LETTERS[:letters]]
    return sorted([text for text in told if not begins_one(words, text)])


def begins_one(words, text):
    """Tells whether a string begins one of the words."""
    return any([word.startswith(text) for word in words])


def ends_of(words):
    """Returns the sorted list of what can follow within a word, from each place of each word on."""
    return sorted({word[start:] for word in words for start in range(len(word) + 1)})


def ends_with_sign(words, ends, sign):
    """Returns the sorted list of what can follow within a word behind one more letter."""
    # Unlike rows of words can have the same end; each is kept once, so that they stay few.
    return sorted(set(ends_behind(words, ends, sign)))


def is_part(stock, text):
    """Tells whether a string is a part of some text of the stock."""
    check_text(text)
    words = stock.words
    ends = ends_of(words)
    for sign in text:
        ends = ends_with_sign(words, ends, sign)
    return len(ends) > 0


def lost_word(stock, letters, most):
    """Returns the least string of at most most of the letters that is no part of any text, None if there is none."""
    check_letters(stock, letters)
    if most < 0:
        raise InvalidNumber(most)
    words = stock.words
    rows = [("", ends_of(words))]
    seen = set()
    length = 0
    while rows and length < most:
        longer = []
        for text, ends in rows:
            for sign in LETTERS[:letters]:
                behind = ends_with_sign(words, ends, sign)
                if not behind:
                    return text + sign
                # Of strings with the same ends, the least one has the least lost word behind it.
                if tuple(behind) not in seen:
                    seen.add(tuple(behind))
                    longer.append((text + sign, behind))
        rows = longer
        length += 1
    return None
