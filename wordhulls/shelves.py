"""Shelves of words, which can be put there, taken away, swapped, and put back."""

from wordhulls.errors import InvalidNumber, InvalidWord, NothingToUndo, TooMany
from wordhulls.hulls import free_hull
from wordhulls.letters import is_word
from wordhulls.stocks import MOST_WORDS, Stock


class Shelf:
    """At most 8 unlike words, at first none."""

    def __init__(self):
        self._most = None
        self._story = []
        # The words ahead of each call of the story, and behind the last one.
        self._rows = [[]]

    def __eq__(self, other):
        return isinstance(other, Shelf) and self._story == other._story and self._most == other._most

    def __len__(self):
        return len(self._rows[-1])

    @property
    def words(self):
        """The words in their sequence, in a list of the caller's own."""
        return list(self._rows[-1])

    def put(self, word):
        """Puts a word behind the others."""
        words = self.words
        check_new(words, word)
        if len(words) == MOST_WORDS:
            raise TooMany(len(words) + 1)
        self._keep(("put", word), words + [word])

    def take(self, word):
        """Takes a word away."""
        words = self.words
        check_there(words, word)
        self._keep(("take", word), [told for told in words if told != word])

    def swap(self, word, other):
        """Puts another word in the place of one."""
        words = self.words
        check_there(words, word)
        check_new(words, other)
        self._keep(("swap", word, other), [other if told == word else told for told in words])

    def undo(self):
        """Takes back the last call that has not been taken back."""
        if not self._story:
            raise NothingToUndo(0)
        self._story.pop()
        self._rows.pop()

    def stock(self):
        """Returns the stock of the words; without words its check raises the InvalidNumber(0) that is due."""
        return Stock(self.words)

    def hull(self):
        """Returns the free hull of the words, [] without words."""
        if not self._rows[-1]:
            return []
        return free_hull(self.stock())

    def story(self):
        """Returns the list of the calls that are not taken back."""
        return list(self._story)

    def _keep(self, call, words):
        """Keeps a call and the words behind it."""
        self._story.append(call)
        self._rows.append(words)


class SmallShelf(Shelf):
    """A shelf of at most so many words."""

    def __init__(self, most):
        if most < 0:
            raise InvalidNumber(most)
        super().__init__()
        self._most = most

    def put(self, word):
        """Puts a word behind the others, if it is not one too many."""
        words = self.words
        check_new(words, word)
        if len(words) + 1 > self._most:
            raise TooMany(len(words) + 1)
        super().put(word)


def check_new(words, word):
    """Raises InvalidWord for what is no word, or is there."""
    if not is_word(word) or word in words:
        raise InvalidWord(word)


def check_there(words, word):
    """Raises InvalidWord for a word that is not there."""
    if word not in words:
        raise InvalidWord(word)
