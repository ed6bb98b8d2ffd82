"""Rows of readers, each reading what the one ahead tells, and webs of rows that read the same text."""

from foeholes.readers import is_reader, read_on
from foeholes.signs import is_text, is_tuple

MOST_READERS = 3
MOST_ROWS = 3


def is_row(thing):
    """Of anything, whether it is a row."""
    if not is_tuple(thing, 1, MOST_READERS):
        return False
    if not all([is_reader(part) for part in thing]):
        return False
    return all([fits(ahead, behind) for ahead, behind in zip(thing, thing[1:])])


def fits(ahead, behind):
    """Whether all that the reader ahead may tell is read by the one behind."""
    tells = ahead[1]
    return is_text(tells, behind[0], len(tells))


def is_web(thing):
    """Of anything, whether it is a web."""
    if not is_tuple(thing, 1, MOST_ROWS):
        return False
    if not all([is_row(part) for part in thing]):
        return False
    signs = thing[0][0][0]
    return all([row[0][0] == signs for row in thing])


def row_on(row, text, *, states=None):
    """The states behind the text, read from states on, and what the row has told."""
    froms = (0,) * len(row) if states is None else states
    behind = []
    told = text
    for reader, state in zip(row, froms):
        after, told = read_on(reader, told, state=state)
        behind.append(after)
    return (tuple(behind), told)


def row_end(row, states):
    """What the row tells still where the text ends; None where a reader doesn't let it by."""
    told = ""
    for reader, state in zip(row, states):
        after, by_ways = read_on(reader, told, state=state)
        end = reader[2][after][1]
        if end is None:
            return None
        told = by_ways + end
    return told


def row_telling(row, text):
    """What the row tells of the whole text; None where a reader doesn't let it by."""
    states, told = row_on(row, text)
    end = row_end(row, states)
    if end is None:
        return None
    return told + end


def as_one(row):
    """The row as one reader, its states numbered as texts come to them."""
    start = (0,) * len(row)
    numbers = {start: 0}
    come_to = [start]
    states = []
    while len(states) < len(come_to):
        here = come_to[len(states)]
        ways = []
        for sign in row[0][0]:
            behind, told = row_on(row, sign, states=here)
            if behind not in numbers:
                numbers[behind] = len(come_to)
                come_to.append(behind)
            ways.append((numbers[behind], told))
        states.append((tuple(ways), row_end(row, here)))
    return (row[0][0], row[-1][1], tuple(states))


def heard_by(web, text):
    """What each listener hears of the text, None for those who don't let it by."""
    return tuple([row_telling(row, text) for row in web])
