"""Letters, words and the Text check."""

from wordhulls.errors import InvalidText

LETTERS = "abcdefghijklmnopqrstuvwxyz"
MOST_LETTERS = 8


def is_letters(text):
    """Tells whether a string has no other sign than the letters a to z."""
    return all([sign in LETTERS for sign in text])


def is_word(text):
    """Tells whether a string is 1 to 8 letters."""
    return 1 <= len(text) <= MOST_LETTERS and is_letters(text)


def check_text(text):
    """The Text check."""
    if not is_letters(text):
        raise InvalidText(text)
