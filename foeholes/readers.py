"""Readers: small machines that read a text sign by sign and tell another one."""

from foeholes.signs import is_number_below, is_signs, is_text, is_tuple

MOST_STATES = 6
MOST_TOLD = 3


def is_reader(thing):
    """Of anything, whether it is a reader."""
    if not is_tuple(thing, 3, 3):
        return False
    reads, tells, states = thing
    if not is_signs(reads) or not is_signs(tells) or not is_tuple(states, 1, MOST_STATES):
        return False
    return all([is_state(state, len(reads), tells, len(states)) for state in states])


def is_state(thing, many_ways, tells, many_states):
    """Whether the thing is a state of a reader that reads, tells and has so many."""
    if not is_tuple(thing, 2, 2):
        return False
    ways, end = thing
    if not is_tuple(ways, many_ways, many_ways):
        return False
    if not all([is_way(way, tells, many_states) for way in ways]):
        return False
    return end is None or is_text(end, tells, MOST_TOLD)


def is_way(thing, tells, many_states):
    """Whether the thing is a pair of a state's number and what is told."""
    if not is_tuple(thing, 2, 2):
        return False
    after, told = thing
    return is_number_below(after, many_states) and is_text(told, tells, MOST_TOLD)


def read_on(reader, text, *, state=0):
    """The state behind the text, read from a state on, and all that was told."""
    reads, _, states = reader
    at = state
    told = []
    for sign in text:
        at, part = states[at][0][reads.index(sign)]
        told.append(part)
    return (at, "".join(told))


def telling(reader, text):
    """What the reader tells of the whole text, its end too; None where it isn't let by."""
    state, told = read_on(reader, text)
    end = reader[2][state][1]
    if end is None:
        return None
    return told + end


def goes_along(one, other):
    """Whether the other reader tells as the one does, wherever the one may still let a text by."""
    hopeful = hopeful_states(one)
    pairs = [(0, 0)]
    known = set()
    while pairs:
        pair = pairs.pop()
        if pair in known:
            continue
        known.add(pair)
        ways, end = one[2][pair[0]]
        other_ways, other_end = other[2][pair[1]]
        if end is not None and end != other_end:
            return False
        for (after, told), (other_after, other_told) in zip(ways, other_ways):
            if hopeful[after] and told != other_told:
                return False
            if hopeful[after]:
                pairs.append((after, other_after))
    return True


def hopeful_states(reader):
    """For each state, whether some text, the empty one too, is let by from there on."""
    states = reader[2]
    hopeful = [end is not None for ways, end in states]
    # A text that visits no state twice is shorter than the states are many.
    for _ in range(len(states) - 1):
        hopeful = [already or any([hopeful[after] for after, told in ways])
                   for already, (ways, end) in zip(hopeful, states)]
    return hopeful
