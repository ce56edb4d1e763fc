"""The errors of the program."""


class WordError(ValueError):
    """The base of all errors; it holds the value that is at fault."""

    def __init__(self, value):
        self.value = value


class InvalidWord(WordError):
    """A word that is not one of 1 to 8 letters, came before, is there or is not there."""


class InvalidNumber(WordError):
    """A number that is outside of what is asked for."""


class InvalidText(WordError):
    """A text that has another sign than a letter, or is none of those asked for."""


class InvalidReading(WordError):
    """A number in a reading that no word has."""


class NotOneWay(WordError):
    """A stock that is not read in one way; the value is a text with two readings."""


class NotApart(WordError):
    """Two words of which the first one begins the second one."""


class NothingToUndo(WordError):
    """No call is left that could be taken back."""


class TooMany(WordError):
    """More words than a shelf takes."""


class Unreadable(WordError):
    """A text that no stock has."""
