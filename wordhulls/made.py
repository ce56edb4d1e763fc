"""Which texts are made of words, without counting in how many ways."""


def is_made(words, text):
    """Tells whether words, run together, make a text; the empty one is made of no words."""
    made = [True]
    for end in range(1, len(text) + 1):
        made.append(any([ends_with(word, text, end, made) for word in words]))
    return made[len(text)]


def ends_with(word, text, end, made):
    """Tells whether a word ends at a place of a text, and made tells that words make what is ahead of it."""
    start = end - len(word)
    return start >= 0 and text.startswith(word, start) and made[start]
