"""Standings: where all rows are, and how far each listener has come in what is due, at the edges of holes."""

from foeholes.frames import tells_of, web_signs
from foeholes.lots import lot_of_word, lot_on, trimmed
from foeholes.rows import row_end, row_on
from foeholes.signs import is_number_below, is_tuple


def present_texts(frame, i):
    """For each listener its present text in dues, where just the holes ahead of hole i are past."""
    holes, dues = frame[1:]
    past = [listener for listener, lot in holes[:i]]
    return [texts[past.count(k)] for k, texts in enumerate(dues)]


def beginning(web):
    """The standing ahead of all."""
    return (tuple([(0,) * len(row) for row in web]), (0,) * len(web))


def is_standing(web, frame, i, thing):
    """Of anything, whether it is a standing at hole i, come to or not."""
    if not is_tuple(thing, 2, 2):
        return False
    states, come = thing
    if not is_tuple(states, len(web), len(web)) or not is_tuple(come, len(web), len(web)):
        return False
    if not all([are_row_states(row, part) for row, part in zip(web, states)]):
        return False
    texts = present_texts(frame, i)
    if not all([is_number_below(far, len(text) + 1) for far, text in zip(come, texts)]):
        return False
    listener = frame[1][i][0]
    return come[listener] == len(texts[listener])


def is_pair(web, frame, thing):
    """Of anything, whether it is a pair of a hole's number and a standing at that hole."""
    if not is_tuple(thing, 2, 2):
        return False
    i, standing = thing
    return is_number_below(i, len(frame[1])) and is_standing(web, frame, i, standing)


def are_row_states(row, thing):
    """Whether the thing is a tuple of the numbers of states, one for each reader of the row."""
    if not is_tuple(thing, len(row), len(row)):
        return False
    return all([is_number_below(state, len(reader[2])) for reader, state in zip(row, thing)])


def piece_leads(web, frame, i, standing):
    """The standing at hole i to which piece i leads; behind the last hole True for the end; None for none."""
    pieces, holes, _ = frame
    here = beginning(web) if standing is None else standing
    texts = present_texts(frame, i)
    if i == len(holes):
        return True if leads_to_end(web, texts, here, pieces[i]) else None
    read = read_by_all(web, texts, None, here, pieces[i])
    if read is None:
        return None
    listener = holes[i][0]
    after = read[1]
    return after if after[1][listener] == len(texts[listener]) else None


def leads_to_end(web, texts, standing, text):
    """Whether each listener tells by the text and its end all that it has still to tell."""
    for row, states, far, due in zip(web, standing[0], standing[1], texts):
        after, told = row_on(row, text, states=states)
        end = row_end(row, after)
        if end is None or told + end != due[far:]:
            return False
    return True


def read_by_all(web, texts, listener, standing, text):
    """What the listener tells by the text, and the standing behind, in which its own number stays as it was.

    None where another one's telling does not go on its text. With None for the listener all of them have to go on.
    """
    told_by_listener = ""
    states = []
    come = []
    for k, row in enumerate(web):
        after, told = row_on(row, text, states=standing[0][k])
        far = standing[1][k]
        if k == listener:
            told_by_listener = told
        elif texts[k][far:far + len(told)] == told:
            far = far + len(told)
        else:
            return None
        states.append(after)
        come.append(far)
    return (told_by_listener, (tuple(states), tuple(come)))


def hole_leads(web, frame, i, standing, text):
    """The word that the text makes heard from a standing at hole i, and the standing behind; None for none."""
    listener = frame[1][i][0]
    read = read_by_all(web, present_texts(frame, i), listener, standing, text)
    if read is None:
        return None
    word, after = read
    return (word, past_hole(listener, after))


def past_hole(listener, standing):
    """The standing behind the hole's text, where the text ends with this one."""
    states, come = standing
    return (states, come[:listener] + (0,) + come[listener + 1:])


def behind(web, frame, i, standing, word):
    """All standings behind hole i to which texts lead that make the word heard, sorted, each once."""
    listener = frame[1][i][0]
    return behind_lot(web, frame, i, [standing], lot_of_word(tells_of(web, listener), word))


def come_to(web, frame):
    """For each hole the sorted list of the standings come to."""
    holes = frame[1]
    lists = []
    froms = [None]
    for i, (listener, lot) in enumerate(holes):
        leads = [piece_leads(web, frame, i, standing) for standing in froms]
        lists.append(sorted({here for here in leads if here is not None}))
        if i + 1 < len(holes):
            froms = behind_lot(web, frame, i, lists[i], trimmed(lot))
    return lists


def behind_lot(web, frame, i, standings, lot):
    """All standings behind hole i to which texts lead from these, that make words of the lot heard, sorted.

    The lot is a trimmed one: what is read where no word ends behind it is read for nothing, and may be too much.
    """
    listener = frame[1][i][0]
    texts = present_texts(frame, i)
    ahead = [(standing, 0) for standing in standings]
    known = set(ahead)
    steps = {}
    found = {}
    while ahead:
        here, state = ahead.pop()
        if lot[1][state][1]:
            found[past_hole(listener, here)] = True
        if here not in steps:
            steps[here] = steps_from(web, texts, listener, here)
        for sign, told, after in steps[here]:
            way = lot_on(lot, told, state=state)
            if way is not None and (after, way) not in known:
                known.add((after, way))
                ahead.append((after, way))
    return sorted(found)


def steps_from(web, texts, listener, standing):
    """For each of the web's signs by which all others go on: it, what the listener tells, the standing behind."""
    reads = [(sign, read_by_all(web, texts, listener, standing, sign)) for sign in web_signs(web)]
    return [(sign, *read) for sign, read in reads if read is not None]
