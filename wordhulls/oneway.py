"""Whether texts are read in one way, and how far two readings go together if they are not.

Of two rows of words that begin with unlike words and go together, the one that
is ahead has a rest behind the other one. The next word stands in the row that
is behind, so the rest alone tells how the two can go on.
"""

from heapq import heapify, heappop, heappush

from wordhulls.errors import NotOneWay
from wordhulls.readings import nth_reading


def rest_between(one, other):
    """Returns what the longer string has behind the shorter one, "" if that does not begin it."""
    if other.startswith(one):
        return other[len(one):]
    if one.startswith(other):
        return one[len(other):]
    return ""


def number_alike(one, other):
    """Returns how many first letters two strings have alike."""
    number = 0
    for sign, another in zip(one, other):
        if sign != another:
            return number
        number += 1
    return number


def beginning_pairs(words):
    """Returns the pairs of numbers of words of which the first one begins the second one."""
    numbers = range(len(words))
    return [
        (begin, number)
        for begin in numbers
        for number in numbers
        if begin != number and words[number].startswith(words[begin])
    ]


def rests(stock):
    """Returns the sorted list of all rests."""
    words = stock.words
    ahead = [rest_between(words[begin], words[number]) for begin, number in beginning_pairs(words)]
    found = set()
    while ahead:
        rest = ahead.pop()
        if rest != "" and rest not in found:
            found.add(rest)
            ahead.extend([rest_between(rest, word) for word in words])
    return sorted(found)


def is_one_way(stock):
    """Tells whether the stock is read in one way."""
    words = stock.words
    return not any([rest in words for rest in rests(stock)])


def check_one_way(stock):
    """The One-way check."""
    text = least_text(stock.words)
    if text is not None:
        raise NotOneWay(text)


def two_readings(stock):
    """Returns the least text with two readings and the first two of them, None if there is none."""
    text = least_text(stock.words)
    if text is None:
        return None
    return text, nth_reading(stock, text, 0), nth_reading(stock, text, 1)


def least_text(words):
    """Returns the least text with two readings, None if there is none.

    Two readings of the least one begin with unlike words and meet at its end only:
    otherwise a part of it would be a less one.
    """
    queue = [
        (len(words[number]), words[number], rest_between(words[begin], words[number]))
        for begin, number in beginning_pairs(words)
    ]
    heapify(queue)
    seen = set()
    while queue:
        _, text, rest = heappop(queue)
        if rest == "":
            return text
        if rest not in seen:
            # The least text with a rest comes first, and stays the least whatever goes behind them all.
            seen.add(rest)
            for longer, left in texts_behind(words, text, rest):
                heappush(queue, (len(longer), longer, left))
    return None


def texts_behind(words, text, rest):
    """Returns the texts with their rests that one more word behind the shorter row leads to."""
    told = []
    for word in words:
        if word.startswith(rest):
            told.append((text + word[len(rest):], word[len(rest):]))
        elif rest.startswith(word):
            told.append((text, rest[len(word):]))
    return told


def endless_rests(words, found):
    """Returns those of the rests found from which two rows can go on over rests for ever."""
    endless = found
    kept = lasting(words, endless)
    while len(kept) < len(endless):
        endless = kept
        kept = lasting(words, endless)
    return endless


def lasting(words, told):
    """Returns those of the rests told that lead to one of them."""
    return [rest for rest in told if next_number(words, rest, told) < len(words)]


def next_number(words, rest, told):
    """Returns the first number of a word that leads from a rest to one of the rests told.

    If there is none, this is the number of the words.
    """
    number = 0
    while number < len(words) and rest_between(rest, words[number]) not in told:
        number += 1
    return number


def agree_most(stock):
    """Returns how many first letters two texts can have alike whose readings begin unlike.

    None if this has no end.
    """
    words = stock.words
    found = rests(stock)
    if not is_one_way(stock) or endless_rests(words, found):
        return None
    most = most_behind(words, found)
    return max([alike_with(one, other, most) for one in words for other in words if one != other], default=0)


def most_behind(words, found):
    """Returns for each rest found how many letters can be alike from it on, if this has an end."""
    most = {rest: 0 for rest in found}
    # Two rows that come to no rest twice go on for no more words than there are rests.
    for _ in found:
        most = {rest: max([alike_with(rest, word, most) for word in words]) for rest in found}
    return most


def alike_with(one, other, most):
    """Returns how many letters can be alike from two strings on, if most tells it for rests."""
    return number_alike(one, other) + most.get(rest_between(one, other), 0)


def endless_rows(stock):
    """Returns two unlike rows (begin, ring) that make one endless text, None if there are none."""
    found = two_readings(stock)
    if found is not None:
        _, first, second = found
        return ([], first), ([], second)
    words = stock.words
    endless = endless_rests(words, rests(stock))
    for begin, number in beginning_pairs(words):
        if rest_between(words[begin], words[number]) in endless:
            return rows_from(words, endless, begin, number)
    return None


def rows_from(words, endless, begin, number):
    """Returns the rows (begin, ring) that go on from two words, over rests that are endless."""
    rows = [[begin], [number]]
    ahead = 1
    rest = rest_between(words[begin], words[number])
    seen = {}
    # The same rest on the other side is no ring yet: the rows would have to change places.
    while (rest, ahead) not in seen:
        seen[(rest, ahead)] = (len(rows[0]), len(rows[1]))
        following = next_number(words, rest, endless)
        word = words[following]
        rows[1 - ahead].append(following)
        if len(word) > len(rest):
            ahead = 1 - ahead
        rest = rest_between(rest, word)
    one, other = seen[(rest, ahead)]
    return (rows[0][:one], rows[0][one:]), (rows[1][:other], rows[1][other:])


def are_endless(stock, value):
    """Tells whether any value is a tuple of two unlike rows that make one endless text."""
    words = stock.words
    if type(value) != tuple or len(value) != 2:
        return False
    if not all([is_row(part, len(words)) for part in value]):
        return False
    (begin, ring), (other_begin, other_ring) = value
    if (begin + ring)[0] == (other_begin + other_ring)[0]:
        return False
    # Two rings that agree for as many letters as both have together agree for ever.
    length = most_letters(words, begin, other_begin) + letters_of(words, ring) + letters_of(words, other_ring)
    return letters_from(words, begin, ring, length) == letters_from(words, other_begin, other_ring, length)


def is_row(value, many):
    """Tells whether any value is a tuple (begin, ring) of numbers of so many words."""
    if type(value) != tuple or len(value) != 2:
        return False
    begin, ring = value
    return are_numbers(begin, many) and are_numbers(ring, many) and len(ring) > 0


def are_numbers(value, many):
    """Tells whether any value is a list of numbers of so many words."""
    if type(value) != list:
        return False
    return all([type(number) == int and 0 <= number < many for number in value])


def letters_of(words, numbers):
    """Returns how many letters the words of a list of numbers have."""
    return sum([len(words[number]) for number in numbers])


def most_letters(words, numbers, others):
    """Returns how many letters the words of the longer of two lists of numbers have."""
    return max(letters_of(words, numbers), letters_of(words, others))


def letters_from(words, begin, ring, length):
    """Returns so many first letters of the endless text of a row."""
    ahead = "".join([words[number] for number in begin])
    again = "".join([words[number] for number in ring])
    return (ahead + again * (length // len(again) + 1))[:length]
