"""Writing: the least texts by which words are heard and all is won still, and writers of them."""

from foeholes.errors import NoHole, NoNumber, NoWay, NoWord
from foeholes.frames import in_turn
from foeholes.lots import is_word
from foeholes.signs import is_number_below
from foeholes.standings import behind, hole_leads, is_standing, past_hole, piece_leads, present_texts, steps_from
from foeholes.winning import all_aims, prospects, the_end

# A web of one reader that tells nothing, and a frame of it without holes, which the writer wins.
STILL_WEB = ((("!", "!", ((((0, ""),), ""),)),),)
STILL_FRAME = (("",), (), (("",),))


def price(web, frame, i, standing, word):
    """The fewest signs of a text that makes the word heard from a standing at hole i, and leads on well."""
    return len(text_for(web, frame, i, standing, word))


def text_for(web, frame, i, standing, word):
    """The least text that makes the word heard from a standing at hole i, and leads on well."""
    if not is_standing(web, frame, i, standing):
        raise NoWay("this is no standing at the hole")
    if not is_named(frame, i, word):
        raise NoWord(i)
    text = least_text(web, frame, i, standing, word, aims_behind(web, frame, i, standing, word))
    if text is None:
        raise NoWay("no text for this word leads on well")
    return text


def is_named(frame, i, thing):
    """Of anything, whether the foe may name it at hole i."""
    return isinstance(thing, str) and is_word(frame[1][i][1], thing)


def aims_behind(web, frame, i, standing, word):
    """The good ones of the standings at the next hole to which the word may lead; behind the last hole the end."""
    if i + 1 == len(frame[1]):
        return the_end()
    leads = [piece_leads(web, frame, i + 1, after) for after in behind(web, frame, i, standing, word)]
    found = prospects(web, frame, i + 1, sorted({lead for lead in leads if lead is not None}))
    return found[0].good()


def least_text(web, frame, i, standing, word, aims):
    """The least text that makes the word heard, and from behind which the next piece leads to an aim; or None."""
    listener = frame[1][i][0]
    dues = present_texts(frame, i)
    # What is come to first is come to by its least text: shorter ones go ahead, then those sorted ahead.
    come_to = [(standing, 0)]
    lasts = [(None, "")]
    known = set(come_to)
    steps = {}
    at = 0
    while at < len(come_to):
        here, far = come_to[at]
        if far == len(word) and piece_leads(web, frame, i + 1, past_hole(listener, here)) in aims:
            return text_back(lasts, at)
        if here not in steps:
            steps[here] = steps_from(web, dues, listener, here)
        for sign, told, after in steps[here]:
            further = (after, far + len(told))
            if word[far:far + len(told)] == told and further not in known:
                known.add(further)
                come_to.append(further)
                lasts.append((at, sign))
        at += 1
    return None


def text_back(lasts, at):
    """The signs by which this was come to, where for each its last sign is known, and behind what that stood."""
    signs = []
    ahead, sign = lasts[at]
    while ahead is not None:
        signs.append(sign)
        ahead, sign = lasts[ahead]
    return "".join(signs[::-1])


class Writer:
    """A writer that wins whatever words it is told: of each it tells the least text that leads on well."""

    def __init__(self, web, frame):
        self._web = web
        self._frame = frame
        self._aims = all_aims(web, frame)
        self._words = []
        self._texts = []
        # Where each piece leads that is read by now: to a standing at its hole, the last one to the end.
        self._leads = [piece_leads(web, frame, 0, None)]
        if self._leads[0] not in self._aims[0]:
            raise NoWay("the foe wins")

    def write(self, word):
        """The text for the next hole, where the foe names this word."""
        i = len(self._words)
        if i == len(self._frame[1]):
            raise NoHole("all holes are filled")
        if not is_named(self._frame, i, word):
            raise NoWord(i)
        text = least_text(self._web, self._frame, i, self._leads[i], word, self._aims[i + 1])
        after = hole_leads(self._web, self._frame, i, self._leads[i], text)[1]
        self._words.append(word)
        self._texts.append(text)
        self._leads.append(piece_leads(self._web, self._frame, i + 1, after))
        return text

    def words(self):
        """The words told by now."""
        return list(self._words)

    def texts(self):
        """The texts written by now."""
        return list(self._texts)

    def text(self):
        """The text by now, up to the next hole, or whole."""
        return in_turn(self._frame[0], self._texts)

    def standing(self):
        """The standing at the next hole, None where all are filled."""
        return None if len(self._words) == len(self._frame[1]) else self._leads[-1]

    def signs(self):
        """How many signs the texts have, without the pieces."""
        return sum([len(text) for text in self._texts])

    def take_back(self, many):
        """Take back so many of the last words."""
        if not is_number_below(many, len(self._words) + 1):
            raise NoNumber("no so many words can be taken back")
        left = len(self._words) - many
        self._words = self._words[:left]
        self._texts = self._texts[:left]
        self._leads = self._leads[:left + 1]

    def fork(self):
        """Another writer that stands as this one does."""
        # Who wins is known here, and takes long to be found again.
        other = Writer(STILL_WEB, STILL_FRAME)
        other._web = self._web
        other._frame = self._frame
        other._aims = self._aims
        other._words = self.words()
        other._texts = self.texts()
        other._leads = list(self._leads)
        return other
