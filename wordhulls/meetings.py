"""Two rows of words, each of its own stock, that make one text together, and where both meet.

The row that is ahead has a rest behind the other one. The next word stands in
the row that is behind, so a state (row ahead, rest) alone tells how both can go
on. Where the stocks are read in one way, a common text leads over the states in
one way only, and a word of the base is one that meets at its end for the first
time: what meets earlier is made of shorter common texts.

A step is a tuple (letters, state): what the text has more, and the state behind
it. A place in a text is such a tuple, too: the letters of the row that is ahead
that are still to come, and the state behind them.
"""

START = (1, "")
END = (0, "")


def steps_from(rows, state):
    """Returns the steps that one more word in the row that is behind leads to."""
    ahead, rest = state
    told = []
    for word in rows[1 - ahead]:
        if word == rest:
            told.append(("", END))
        elif rest.startswith(word):
            told.append(("", (ahead, rest[len(word):])))
        elif word.startswith(rest):
            told.append((word[len(rest):], (1 - ahead, word[len(rest):])))
    return told


def all_steps(rows):
    """Returns the steps from each state that two rows lead to before they meet."""
    steps = {END: []}
    ahead = [START]
    while ahead:
        state = ahead.pop()
        if state not in steps:
            steps[state] = steps_from(rows, state)
            ahead.extend([following for _, following in steps[state]])
    return steps


def ending_states(steps):
    """Returns a dict of the states from which both rows can meet."""
    into = {state: [] for state in steps}
    for state in steps:
        for _, following in steps[state]:
            into[following].append(state)
    found = {}
    ahead = [END]
    while ahead:
        state = ahead.pop()
        if state not in found:
            found[state] = True
            ahead.extend(into[state])
    return found


def base_steps(stock, other):
    """Returns the steps from each state on a way from START to END; these ways are the words of the base."""
    steps = all_steps((stock.words, other.words))
    kept = ending_states(steps)
    # Where the base has no word, START is there all the same, without a step.
    kept[START] = True
    return {state: [step for step in steps[state] if step[1] in kept] for state in steps if state in kept}


def common_steps(stock, other):
    """Returns the steps of the common texts: the ways from END, over words of the base, to END."""
    steps = base_steps(stock, other)
    steps[END] = list(steps[START])
    return steps


def opened(steps, places):
    """Returns the places with a letter to come that words of the row that is behind lead to."""
    found = []
    ahead = list(places)
    while ahead:
        letters, state = ahead.pop()
        if letters == "":
            ahead.extend(steps[state])
        else:
            found.append((letters, state))
    return found


def places_with(places, sign):
    """Returns the places behind a letter, from places that have a letter to come."""
    return [(letters[1:], state) for letters, state in places if letters[0] == sign]


def places_behind(steps, places, text):
    """Returns the places behind a text."""
    told = places
    for sign in text:
        told = places_with(opened(steps, told), sign)
    return told


def is_met(steps, places):
    """Tells whether both rows meet at one of the places."""
    ahead = [state for letters, state in places if letters == ""]
    while ahead:
        state = ahead.pop()
        if state == END:
            return True
        ahead.extend([following for letters, following in steps[state] if letters == ""])
    return False
