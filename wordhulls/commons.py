"""The common texts of two stocks that are read in one way, and the words of their base."""

from heapq import heappop, heappush

from wordhulls.counts import check_length
from wordhulls.errors import InvalidNumber
from wordhulls.meetings import END, START, base_steps, common_steps, opened, places_with
from wordhulls.oneway import check_one_way


def check_both(stock, other):
    """The One-way check of both stocks."""
    check_one_way(stock)
    check_one_way(other)


def ways_to_end(steps, length):
    """Returns for each state the list of how many ways lead to END with so many letters, up to a length."""
    # A step without a letter leads to a shorter rest or to END, which is counted ahead of it.
    ordered = sorted(steps, key=lambda state: len(state[1]))
    many = {state: [] for state in steps}
    for number in range(length + 1):
        for state in ordered:
            done = 1 if state == END and number == 0 else 0
            many[state].append(done + count_over(many, steps[state], number))
    return many


def count_over(many, places, number):
    """Returns how many ways with so many letters lead over the places to END."""
    return sum([many[state][number - len(letters)] for letters, state in places if len(letters) <= number])


def nth_from(steps, begin, length, index):
    """Returns what has an index, by the alphabet, among the ways of a length from a state to END."""
    many = ways_to_end(steps, length)
    if not 0 <= index < many[begin][length]:
        raise InvalidNumber(index)
    signs = []
    places = [("", begin)]
    left = index
    for number in reversed(range(1, length + 1)):
        ahead = opened(steps, places)
        sign, left = letter_at_index(many, ahead, number, left)
        signs.append(sign)
        places = places_with(ahead, sign)
    return "".join(signs)


def letter_at_index(many, places, number, index):
    """Returns the next letter of what has an index, if so many letters are to come from the places on.

    With it stands the index among those that have this letter there.
    """
    letters = sorted({told[0] for told, _ in places})
    at = 0
    left = index
    count = count_over(many, places_at(places, letters[0]), number)
    while left >= count:
        left -= count
        at += 1
        count = count_over(many, places_at(places, letters[at]), number)
    return letters[at], left


def places_at(places, sign):
    """Returns the places at which a letter comes next."""
    return [place for place in places if place[0][0] == sign]


def count_common(stock, other, length):
    """Returns how many common texts of a length two stocks have."""
    check_both(stock, other)
    check_length(length)
    return ways_to_end(common_steps(stock, other), length)[END][length]


def nth_common(stock, other, length, index):
    """Returns the common text of a length with an index among them, by the alphabet."""
    check_both(stock, other)
    check_length(length)
    return nth_from(common_steps(stock, other), END, length, index)


def count_base(stock, other, length):
    """Returns how many words of a length the base has."""
    check_both(stock, other)
    check_length(length)
    return ways_to_end(base_steps(stock, other), length)[START][length]


def nth_base(stock, other, length, index):
    """Returns the word of a length of the base with an index among them, by the alphabet."""
    check_both(stock, other)
    check_length(length)
    return nth_from(base_steps(stock, other), START, length, index)


def first_common(stock, other):
    """Returns the least common text that is not empty, None if there is none."""
    check_both(stock, other)
    steps = base_steps(stock, other)
    queue = [(0, "", START)]
    seen = set()
    while queue:
        _, text, state = heappop(queue)
        if state == END:
            return text
        if state not in seen:
            # The least text of a state comes first, and stays the least whatever goes behind them all.
            seen.add(state)
            for letters, following in steps[state]:
                longer = text + letters
                heappush(queue, (len(longer), longer, following))
    return None
