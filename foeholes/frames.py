"""Frames: pieces of a text with holes between them, and what is due to be heard of the whole."""

from foeholes.lots import first_word, is_lot, is_word
from foeholes.rows import heard_by, row_on
from foeholes.signs import is_number_below, is_text, is_tuple

MOST_HOLES = 4
LONGEST = 20


def is_frame(web, thing):
    """Of a web and anything, whether it is a frame of it."""
    if not is_tuple(thing, 3, 3):
        return False
    pieces, holes, dues = thing
    if not is_tuple(holes, 0, MOST_HOLES) or not all([is_hole(web, hole) for hole in holes]):
        return False
    if not are_texts(pieces, len(holes) + 1, web_signs(web)) or not is_tuple(dues, len(web), len(web)):
        return False
    listeners = [listener for listener, lot in holes]
    return all([are_texts(texts, listeners.count(k) + 1, tells_of(web, k)) for k, texts in enumerate(dues)])


def is_hole(web, thing):
    """Whether the thing is a pair of a listener's number and a lot whose words it may tell."""
    if not is_tuple(thing, 2, 2):
        return False
    listener, lot = thing
    if not is_number_below(listener, len(web)) or not is_lot(lot):
        return False
    return is_text(lot[0], tells_of(web, listener), len(lot[0])) and first_word(lot) is not None


def are_texts(thing, many, signs):
    """Whether the thing is a tuple of so many texts of these signs, none too long for a frame."""
    return is_tuple(thing, many, many) and all([is_text(text, signs, LONGEST) for text in thing])


def web_signs(web):
    """The signs that all rows of the web read."""
    return web[0][0][0]


def tells_of(web, listener):
    """The tells of the listener's last reader."""
    return web[listener][-1][1]


def due_tellings(web, frame, words):
    """For each listener its due telling, with words, one for each hole."""
    return tuple([due_ahead(frame, words, len(words), k) for k in range(len(web))])


def due_ahead(frame, words, i, listener):
    """What is due from the listener ahead of hole i, or in all where i is as many as there are holes."""
    holes, dues = frame[1:]
    own = [word for hole, word in zip(holes[:i], words) if hole[0] == listener]
    return in_turn(dues[listener], own)


def whole(frame, texts):
    """The whole text, with texts, one for each hole."""
    return in_turn(frame[0], texts)


def in_turn(parts, between):
    """The first part, the first text between, the second part and so on, up to the part behind the last text."""
    return parts[0] + "".join([text + part for text, part in zip(between, parts[1:])])


def wrong_at(web, frame, words, texts):
    """None where the whole text is well for the words, else the first thing that is wrong."""
    wrong = wrong_word_at(frame, words)
    if wrong is None:
        wrong = wrong_edge_at(web, frame, words, texts)
    if wrong is None:
        wrong = wrong_telling_at(heard_by(web, whole(frame, texts)), due_tellings(web, frame, words))
    return wrong


def wrong_word_at(frame, words):
    """The first word that is not of its hole's lot, or None."""
    for i, (listener, lot) in enumerate(frame[1]):
        if not is_word(lot, words[i]):
            return ("word", i)
    return None


def wrong_edge_at(web, frame, words, texts):
    """The first edge of a hole at which its listener has not told by then what is due, or None."""
    for i, (listener, lot) in enumerate(frame[1]):
        ahead = in_turn(frame[0], texts[:i])
        due = due_ahead(frame, words, i, listener)
        if row_on(web[listener], ahead)[1] != due:
            return ("edge", i, 0)
        if row_on(web[listener], ahead + texts[i])[1] != due + words[i]:
            return ("edge", i, 1)
    return None


def wrong_telling_at(tellings, dues):
    """The first listener that does not let the text by, else the first one that tells what is not due, or None."""
    if None in tellings:
        return ("shut", tellings.index(None))
    for k, (told, due) in enumerate(zip(tellings, dues)):
        if told != due:
            return ("heard", k, how_far_alike(told, due))
    return None


def how_far_alike(one, other):
    """How many signs two texts have alike at their beginnings."""
    for at, (sign, other_sign) in enumerate(zip(one, other)):
        if sign != other_sign:
            return at
    return min(len(one), len(other))
