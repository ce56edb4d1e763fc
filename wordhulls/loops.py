"""Whether the base of two stocks ends: its longest words, or a loop by which it has no end."""

from wordhulls.commons import check_both
from wordhulls.meetings import END, START, base_steps, is_met, places_behind


def endless_states(steps):
    """Returns a dict of the states from which steps can go on for ever."""
    endless = {state: True for state in steps}
    kept = lasting(steps, endless)
    while len(kept) < len(endless):
        endless = kept
        kept = lasting(steps, endless)
    return endless


def lasting(steps, told):
    """Returns those of the states told that a step leads from to one of them."""
    return {state: True for state in told if any([step[1] in told for step in steps[state]])}


def longest_base(stock, other):
    """Returns the number of letters of the longest words of the base, None if there is no longest one."""
    check_both(stock, other)
    steps = base_steps(stock, other)
    if endless_states(steps):
        return None
    most = {state: 0 for state in steps}
    # A way that comes to no state twice has no more steps than there are states.
    for _ in steps:
        most = {state: most_over(most, steps[state]) for state in steps}
    return most[START]


def most_over(most, told):
    """Returns how many letters can follow over the steps, 0 without a step."""
    return max([len(letters) + most[state] for letters, state in told], default=0)


def base_loop(stock, other):
    """Returns the tuple (ahead, ring, behind) of a loop of the base, None if the base has finitely many words."""
    check_both(stock, other)
    steps = base_steps(stock, other)
    endless = endless_states(steps)
    if not endless:
        return None
    text = ""
    state = START
    seen = {}
    while state not in seen:
        seen[state] = len(text)
        letters, state = first_step(steps[state], endless)
        text += letters
    return text[:seen[state]], text[seen[state]:], text_to_end(steps, state)


def first_step(told, kept):
    """Returns the first step to one of the states kept; the caller knows that there is one."""
    return [step for step in told if step[1] in kept][0]


def text_to_end(steps, begin):
    """Returns the letters of a way with the fewest steps from a state to END."""
    texts = {begin: ""}
    ahead = [begin]
    while END not in texts:
        states = ahead
        ahead = []
        for state in states:
            for letters, following in steps[state]:
                if following not in texts:
                    texts[following] = texts[state] + letters
                    ahead.append(following)
    return texts[END]


def is_base_loop(stock, other, value):
    """Tells whether any value is a tuple (ahead, ring, behind) of a loop of the base."""
    check_both(stock, other)
    if not are_parts(value):
        return False
    ahead, ring, behind = value
    steps = base_steps(stock, other)
    places = places_behind(steps, [("", START)], ahead)
    seen = set()
    # For each number of rings there is one way to END or none. These numbers of ways follow a
    # rule with as many terms as there are places: if they are 1 so often and once more, they stay 1.
    for _ in range(count_places(steps) + 1):
        told = tuple(sorted(places))
        if told in seen:
            return True
        seen.add(told)
        if not is_met(steps, places_behind(steps, places, behind)):
            return False
        places = places_behind(steps, places, ring)
    return True


def are_parts(value):
    """Tells whether any value is a tuple of three strings, the second one not empty."""
    if type(value) != tuple or len(value) != 3:
        return False
    return all([type(part) == str for part in value]) and value[1] != ""


def count_places(steps):
    """Returns a number that is not less than that of the unlike places over all texts."""
    letters = [len(step[0]) for told in steps.values() for step in told]
    return sum(letters) + len(steps)
