"""Guides: tables by which each word that the foe may name gets a text, and so the whole is well."""

from foeholes.errors import NoGuide, NoWay, NoWord
from foeholes.frames import tells_of, web_signs
from foeholes.lots import trimmed
from foeholes.signs import is_number_below, is_text, is_tuple
from foeholes.standings import is_pair, is_standing, past_hole, piece_leads, present_texts, read_by_all
from foeholes.winning import numbers_in, prospects, the_end
from foeholes.writing import is_named

# What three readers tell of one sign, where each tells three signs of each that it reads.
MOST_BEYOND = 27


def guide(web, frame):
    """A guide that holds; None where the foe wins."""
    first = piece_leads(web, frame, 0, None)
    found = prospects(web, frame, 0, [] if first is None else [first])
    if first not in (found[0].good() if found else the_end()):
        return None
    tables = {}
    come_to = [first]
    for i, prospect in enumerate(found):
        leads = {}
        for standing in come_to:
            plan = Plan(prospect, standing)
            tables[(i, standing)] = plan.table
            leads = {**leads, **plan.leads}
        come_to = list(leads)
    return tables


class Plan:
    """The table for a good standing, and the standings at the next hole to which it leads.

    While it is made its rows are pairs of a state of the lot and a set of places, numbered as in the prospect.
    """

    def __init__(self, prospect, standing):
        self._prospect = prospect
        self._amid = prospect.amid
        self._rows = [(0, self._amid.set_of(standing))]
        self._numbers = {self._rows[0]: 0}
        self._singles = [0] * len(prospect.alone)
        # Those of fewest places go ahead: so the rows are small, and lead to each other soon.
        self._parts = [sorted([(len(numbers_in(part)), part) for part in parts]) for parts in prospect.covered]
        self.leads = {}
        made = []
        while len(made) < len(self._rows):
            state, places = self._rows[len(made)]
            made.append(self._made(state, places))
        self.table = tuple(made)

    def _made(self, state, places):
        """A row of the table; those to which it leads are there behind it, or come to be."""
        numbers = numbers_in(places)
        reached = self._reached_silently(state, numbers)
        found = {}
        for number in reached:
            place, text = reached[number]
            for sign, more, on in self._amid.telling[state][number]:
                if (sign, on) not in found:
                    found[(sign, on)] = (place, text + more)
        lot_ways, may_end = self._amid.lot[1][state]
        ways = [None if way is None else self._way(found, sign, way) for sign, way in enumerate(lot_ways)]
        end = self._end(state, reached) if may_end else None
        return (state, tuple([self._amid.places[state][number] for number in numbers]), tuple(ways), end)

    def _reached_silently(self, state, numbers):
        """From which of the numbered places, and by which text that tells nothing, each one is come to."""
        reached = {first: (place, "") for place, first in enumerate(numbers)}
        ahead = list(numbers)
        at = 0
        while at < len(ahead):
            number = ahead[at]
            place, text = reached[number]
            for sign, on in self._amid.silent[state][number]:
                if on not in reached:
                    reached[on] = (place, text + sign)
                    ahead.append(on)
            at += 1
        return reached

    def _way(self, found, sign, state):
        """The row to which a sign leads, and from where each of its places is come to."""
        places = sum([1 << on for told, on in found if told == sign])
        row = self._numbered(state, places & self._prospect.alive[state])
        return (row, tuple([found[(sign, number)] for number in numbers_in(self._rows[row][1])]))

    def _numbered(self, state, places):
        """The number of a row that needs no other places than these, known or new."""
        row = (state, self._part_of(state, places))
        if row not in self._numbers:
            self._numbers[row] = len(self._rows)
            self._rows.append(row)
        return self._numbers[row]

    def _part_of(self, state, places):
        """Some of the places that do for all words behind them."""
        alone = places & self._prospect.alone[state]
        if alone:
            # One that has a row already, if there is one.
            known = alone & self._singles[state]
            single = known & -known if known else alone & -alone
            self._singles[state] |= single
            return single
        for _, part in self._parts[state]:
            if part & places == part:
                return part
        return places

    def _end(self, state, reached):
        """From which place, and by which text, the hole's end is come to, and all is won behind it."""
        for number in reached:
            standing, beyond = self._amid.places[state][number]
            if beyond == "" and self._amid.afters[standing] in self._prospect.aims:
                self.leads[self._amid.afters[standing]] = True
                return reached[number]
        return None


def is_guide(web, frame, thing):
    """Of anything, whether it is a guide of the web and frame that holds."""
    if not isinstance(thing, dict) or not all([is_pair(web, frame, key) for key in thing]):
        return False
    if not all([Check(web, frame, thing, i).is_table(standing, thing[(i, standing)]) for i, standing in thing]):
        return False
    return leads_into(thing, 0, piece_leads(web, frame, 0, None))


def leads_into(tables, i, lead):
    """Whether piece i leads there to the end, or to a standing that the tables have."""
    return lead is True or (i, lead) in tables


class Check:
    """What is to be looked at in a hole's tables, so that a guide is one."""

    def __init__(self, web, frame, tables, i):
        self._web = web
        self._frame = frame
        self._tables = tables
        self._i = i
        self._listener = frame[1][i][0]
        self._lot = trimmed(frame[1][i][1])
        self._dues = present_texts(frame, i)

    def is_table(self, standing, thing):
        """Of anything, whether it is a table for the standing."""
        if not isinstance(thing, tuple) or len(thing) == 0:
            return False
        if not all([self._has_places(row) for row in thing]) or thing[0][:2] != (0, ((standing, ""),)):
            return False
        return all([self._has_ways(thing, row) and self._has_end(row) for row in thing])

    def _has_places(self, thing):
        """Whether the thing is a tuple of four, the first ones a state of the lot and unlike places."""
        if not is_tuple(thing, 4, 4) or not is_number_below(thing[0], len(self._lot[1])):
            return False
        places = thing[1]
        if not isinstance(places, tuple) or not all([self._is_place(place) for place in places]):
            return False
        return len({place: True for place in places}) == len(places)

    def _is_place(self, thing):
        """Whether the thing is a standing at the hole and what may be told beyond a word."""
        if not is_tuple(thing, 2, 2):
            return False
        standing, beyond = thing
        tells = tells_of(self._web, self._listener)
        return is_text(beyond, tells, MOST_BEYOND) and is_standing(self._web, self._frame, self._i, standing)

    def _has_ways(self, table, row):
        """Whether the row has a way for each sign behind which a word may end, and None for all others."""
        state, places, ways, _ = row
        if not is_tuple(ways, len(self._lot[0]), len(self._lot[0])):
            return False
        pairs = zip(self._lot[0], self._lot[1][state][0], ways)
        return all([way is None if due is None else self._is_way(table, places, sign, due, way)
                    for sign, due, way in pairs])

    def _is_way(self, table, places, sign, state, thing):
        """Whether the thing is a row's number, of this state of the lot, and from where its places are come to."""
        if not is_tuple(thing, 2, 2) or not is_number_below(thing[0], len(table)):
            return False
        row, froms = thing
        behind = table[row][1]
        if table[row][0] != state or not is_tuple(froms, len(behind), len(behind)):
            return False
        return all([self._reads(places, part) == (sign + beyond, standing)
                    for part, (standing, beyond) in zip(froms, behind)])

    def _has_end(self, row):
        """Whether the row has an end just where a word may end, and it leads to what is won."""
        state, places, _, end = row
        if not self._lot[1][state][1]:
            return end is None
        read = self._reads(places, end)
        if read is None or read[0] != "":
            return False
        after = past_hole(self._listener, read[1])
        return leads_into(self._tables, self._i + 1, piece_leads(self._web, self._frame, self._i + 1, after))

    def _reads(self, places, thing):
        """What is told beyond the word, and the standing, behind a place's number and a text; None where it's none."""
        if not is_tuple(thing, 2, 2) or not is_number_below(thing[0], len(places)):
            return None
        place, text = thing
        if not isinstance(text, str) or not is_text(text, web_signs(self._web), len(text)):
            return None
        standing, beyond = places[place]
        read = read_by_all(self._web, self._dues, self._listener, standing, text)
        return None if read is None else (beyond + read[0], read[1])


def guided(web, frame, guide, i, standing, word):
    """The text that a guide which holds gives the word, from a standing that it has at hole i."""
    if not is_guide(web, frame, guide):
        raise NoGuide("this is no guide that holds")
    if not is_pair(web, frame, (i, standing)) or (i, standing) not in guide:
        raise NoWay("the guide has no such hole and standing")
    if not is_named(frame, i, word):
        raise NoWord(i)
    table = guide[(i, standing)]
    signs = frame[1][i][1][0]
    row = 0
    all_froms = []
    for sign in word:
        row, froms = table[row][2][signs.index(sign)]
        all_froms.append(froms)
    place, text = table[row][3]
    texts = [text]
    for froms in all_froms[::-1]:
        place, text = froms[place]
        texts.append(text)
    return "".join(texts[::-1])
