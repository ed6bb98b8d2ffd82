"""Lots: the words that a foe may name at a hole, told by states and ways between them."""

from foeholes.signs import is_number_below, is_signs, is_tuple

MOST_STATES = 6


def is_lot(thing):
    """Of anything, whether it is a lot."""
    if not is_tuple(thing, 2, 2):
        return False
    signs, states = thing
    if not is_signs(signs) or not is_tuple(states, 1, MOST_STATES):
        return False
    return all([is_lot_state(state, len(signs), len(states)) for state in states])


def is_lot_state(thing, many_ways, many_states):
    """Whether the thing is a state of a lot that has so many signs and states."""
    if not is_tuple(thing, 2, 2):
        return False
    ways, good = thing
    if not is_tuple(ways, many_ways, many_ways) or not isinstance(good, bool):
        return False
    return all([way is None or is_number_below(way, many_states) for way in ways])


def lot_on(lot, text, *, state=0):
    """The state behind the text, from a state on; None where a sign is not the lot's or its way is None."""
    signs, states = lot
    at = state
    for sign in text:
        if sign not in signs:
            return None
        at = states[at][0][signs.index(sign)]
        if at is None:
            return None
    return at


def is_word(lot, text):
    """Whether the text, of any signs, is a word of the lot."""
    state = lot_on(lot, text)
    return state is not None and lot[1][state][1]


def how_many(lot, length):
    """How many words of this length the lot has."""
    states = lot[1]
    # For each state, how many texts of one length lead there: no text leads to two states.
    texts = [1] + [0] * (len(states) - 1)
    for _ in range(length):
        longer = [0] * len(states)
        for many, (ways, good) in zip(texts, states):
            for way in ways:
                if way is not None:
                    longer[way] += many
        texts = longer
    return sum([many for many, (ways, good) in zip(texts, states) if good])


def first_word(lot):
    """The least word of the lot; None where it has none."""
    signs, states = lot
    come_to = [0]
    # The texts are found as they are sorted, shorter ones ahead, so that the first one to a state is its least.
    texts = [""]
    at = 0
    while at < len(come_to):
        ways, good = states[come_to[at]]
        if good:
            return texts[at]
        for sign, way in zip(signs, ways):
            if way is not None and way not in come_to:
                come_to.append(way)
                texts.append(texts[at] + sign)
        at += 1
    return None


def is_endless(lot):
    """Whether the lot has more words than any number."""
    many = len(lot[1])
    # A word as long as the states are many goes some ring, and one twice as long or longer has a ring to leave out.
    return any([how_many(lot, length) > 0 for length in range(many, 2 * many)])


def trimmed(lot):
    """The lot with None for all ways behind which no word ends."""
    signs, states = lot
    hopeful = [good for ways, good in states]
    # A text that visits no state twice is shorter than the states are many.
    for _ in range(len(states) - 1):
        hopeful = [already or any([way is not None and hopeful[way] for way in ways])
                   for already, (ways, good) in zip(hopeful, states)]
    kept = [(tuple([way if way is not None and hopeful[way] else None for way in ways]), good)
            for ways, good in states]
    return (signs, tuple(kept))


def lot_of_word(signs, word):
    """What is a lot but for its many states, and has this one word."""
    states = [(tuple([at + 1 if sign == due else None for sign in signs]), False) for at, due in enumerate(word)]
    states.append(((None,) * len(signs), True))
    return (signs, tuple(states))
