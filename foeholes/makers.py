"""Makers of anybody: what they write of words, and the first one that they write wrongly."""

from foeholes.errors import NoWay
from foeholes.frames import web_signs
from foeholes.lots import trimmed
from foeholes.signs import is_number_below, is_text, is_tuple
from foeholes.standings import is_standing, past_hole, piece_leads, present_texts, read_by_all
from foeholes.winning import prospects, the_end
from foeholes.writing import text_back

MOST_STATES = 6
LONGEST = 4
# How many unlike leads are looked at where all else is the same.
MOST_LEADS = 2


def is_maker(web, frame, i, thing):
    """Of anything, whether it is a maker for hole i."""
    if not is_number_below(i, len(frame[1])) or not is_tuple(thing, 2, 2):
        return False
    begin, states = thing
    if not is_text(begin, web_signs(web), LONGEST) or not is_tuple(states, 1, MOST_STATES):
        return False
    many = len(frame[1][i][1][0])
    return all([is_maker_state(state, web_signs(web), many, len(states)) for state in states])


def is_maker_state(thing, signs, many_ways, many_states):
    """Whether the thing is a state of a maker that writes these signs and has so many ways and states."""
    if not is_tuple(thing, 2, 2):
        return False
    ways, end = thing
    if not is_tuple(ways, many_ways, many_ways) or not is_text(end, signs, LONGEST):
        return False
    return all([is_maker_way(way, signs, many_states) for way in ways])


def is_maker_way(thing, signs, many_states):
    """Whether the thing is a pair of a state's number and a text of these signs."""
    if not is_tuple(thing, 2, 2):
        return False
    after, text = thing
    return is_number_below(after, many_states) and is_text(text, signs, LONGEST)


def written(maker, lot, word):
    """What the maker writes of a word of the lot's signs."""
    begin, states = maker
    texts = [begin]
    at = 0
    for sign in word:
        at, text = states[at][0][lot[0].index(sign)]
        texts.append(text)
    return "".join(texts) + states[at][1]


class Trial:
    """What a maker writes, tried by what is heard of it amid a hole's text.

    A point is a tuple (maker's state, standing, beyond, owed): what was told beyond the word by then, or what of the
    word was not told by then; one of both is empty. It is None where no text behind it can be right any more.
    """

    def __init__(self, web, frame, i, maker, aims):
        self._web = web
        self._frame = frame
        self._i = i
        self._listener = frame[1][i][0]
        self._dues = present_texts(frame, i)
        self._signs = frame[1][i][1][0]
        self._maker = maker
        self._aims = aims

    def begun(self, standing):
        """The point behind the maker's begin, from a standing at the hole on."""
        return self._read(0, standing, "", "", self._maker[0])

    def gone_on(self, point, sign):
        """The point behind one more sign of the word."""
        if point is None:
            return None
        state, standing, beyond, owed = point
        after, text = self._maker[1][state][0][self._signs.index(sign)]
        return self._read(after, standing, beyond, owed + sign, text)

    def is_right(self, point):
        """Whether the text is right where the word ends here."""
        if point is None:
            return False
        state, standing, beyond, owed = point
        last = self._read(state, standing, beyond, owed, self._maker[1][state][1])
        if last is None or last[2:] != ("", ""):
            return False
        return piece_leads(self._web, self._frame, self._i + 1, past_hole(self._listener, last[1])) in self._aims

    def _read(self, state, standing, beyond, owed, text):
        """The point to which a text leads, with the maker's state there."""
        read = read_by_all(self._web, self._dues, self._listener, standing, text)
        if read is None:
            return None
        told = beyond + read[0]
        alike = min(len(told), len(owed))
        if told[:alike] != owed[:alike]:
            return None
        return (state, read[1], told[alike:], owed[alike:])


def wrong_word(web, frame, i, standing, maker):
    """The least word of the lot of which the maker isn't right, from a good standing at hole i; else None."""
    if not is_standing(web, frame, i, standing):
        raise NoWay("this is no standing at the hole")
    found = prospects(web, frame, i, [standing])
    if found[0].missing[standing] is not None:
        raise NoWay("this standing isn't good")
    aims = found[1].good() if len(found) > 1 else the_end()
    return first_wrong(trimmed(frame[1][i][1]), Trial(web, frame, i, maker, aims), standing)


def first_wrong(lot, trial, standing):
    """The least word of a trimmed lot that isn't right in the trial; None where all are."""
    signs, states = lot
    points = [(0, trial.begun(standing))]
    lasts = [(None, "")]
    seen = {}
    at = 0
    while at < len(points):
        state, point = points[at]
        ways, may_end = states[state]
        if may_end and not trial.is_right(point):
            return text_back(lasts, at)
        for sign, way in zip(signs, ways):
            if way is not None:
                after = trial.gone_on(point, sign)
                if is_to_be_seen(seen, way, after):
                    points.append((way, after))
                    lasts.append((at, sign))
        at += 1
    return None


def is_to_be_seen(seen, state, point):
    """Whether a point has still to be looked at, with the lot's state there; if so it is noted as seen."""
    place, lead = (None, None) if point is None else (point[:2], point[2:])
    leads = seen.setdefault((state, place), [])
    # With any word behind them, just one lead of all may get right: two unlike ones tell that a word is wrong, and
    # the words by which more of them are come to are greater than those.
    if lead in leads or len(leads) == MOST_LEADS:
        return False
    leads.append(lead)
    return True
