"""Winning: from which standings the writer wins, whatever words the foe names."""

from foeholes.lots import lot_on, trimmed
from foeholes.standings import is_standing, past_hole, piece_leads, present_texts, steps_from


class Amid:
    """The places amid a hole's text to which texts lead from some standings, as beginnings of words are heard.

    They stand in a list for each state of the lot, and are numbered in it. A set of some that stand in one list is
    a whole number with a bit for each. A sign of the lot is told by its number among them.
    """

    def __init__(self, web, frame, i, standings):
        self.standings = standings
        self.listener = frame[1][i][0]
        # Where no word of the lot ends behind what is told, nothing has to be looked at.
        self.lot = trimmed(frame[1][i][1])
        states = self.lot[1]
        self.places = [[] for state in states]
        self.silent = [[] for state in states]
        self.telling = [[] for state in states]
        self.order = []
        self._numbers = [{} for state in states]
        self._explore(web, present_texts(frame, i), standings)
        self.leads = self._all_leads()
        self.afters = self._all_afters(web, frame, i)

    def _explore(self, web, dues, standings):
        """Find all places, and what leads from each to others."""
        for standing in standings:
            self._numbered(0, (standing, ""))
        steps = {}
        at = 0
        while at < len(self.order):
            state, number = self.order[at]
            standing, beyond = self.places[state][number]
            if standing not in steps:
                steps[standing] = steps_from(web, dues, self.listener, standing)
            # The word goes on with what was told beyond it, before more is written.
            found = [("", beyond, standing)] if beyond else steps[standing]
            for text, told, after in found:
                self._lead_on(state, number, text, told, after)
            at += 1

    def _numbered(self, state, place):
        """The number of a place, known or new."""
        numbers = self._numbers[state]
        if place not in numbers:
            numbers[place] = len(numbers)
            self.places[state].append(place)
            self.silent[state].append([])
            self.telling[state].append([])
            self.order.append((state, numbers[place]))
        return numbers[place]

    def _lead_on(self, state, number, text, told, after):
        """Note the place to which a text leads by what it tells, if that begins a word."""
        if told == "":
            self.silent[state][number].append((text, self._numbered(state, (after, ""))))
        elif lot_on(self.lot, told, state=state) is not None:
            sign = self.lot[0].index(told[0])
            way = self.lot[1][state][0][sign]
            self.telling[state][number].append((sign, text, self._numbered(way, (after, told[1:]))))

    def _all_leads(self):
        """For each place and each sign of the lot all places to which it leads, by signs that tell nothing too."""
        leads = [[[0] * len(self.lot[0]) for place in places] for places in self.places]
        for state, number in self.order:
            for sign, text, on in self.telling[state][number]:
                leads[state][number][sign] |= 1 << on
        return self.through_silence(leads)

    def through_silence(self, masks):
        """The lists of sets, one for each place, each with what those have to which signs lead that tell nothing."""
        again = True
        while again:
            again = False
            # Those found later are mostly led to: they go first, so that this is done but a few times.
            for state, number in reversed(self.order):
                joined = masks[state][number]
                for text, on in self.silent[state][number]:
                    joined = [one | other for one, other in zip(joined, masks[state][on])]
                if joined != masks[state][number]:
                    masks[state][number] = joined
                    again = True
        return masks

    def _all_afters(self, web, frame, i):
        """For each standing with which a word may end here where the next piece leads from behind it."""
        afters = {}
        for state, number in self.order:
            standing, beyond = self.places[state][number]
            if self.lot[1][state][1] and beyond == "" and standing not in afters:
                afters[standing] = piece_leads(web, frame, i + 1, past_hole(self.listener, standing))
        return afters

    def standings_next(self):
        """The standings at the next hole come to from here, sorted."""
        afters = list(self.afters.values())
        return sorted({after for after in afters if after is not None})

    def set_of(self, standing):
        """The set of just the place where the hole's text begins, from a standing that this was made of."""
        return 1 << self._numbers[0][(standing, "")]

    def ways_on(self, state, places):
        """For each sign by which words go on: it, the lot's state and the set of places behind."""
        signs = self.lot[0]
        joined = [0] * len(signs)
        for number in numbers_in(places):
            joined = [one | other for one, other in zip(joined, self.leads[state][number])]
        ways = zip(signs, self.lot[1][state][0], joined)
        return [(sign, way, behind) for sign, way, behind in ways if way is not None]


class Prospect:
    """Which words of a hole's lot have texts that lead to what is aimed at, from the places amid its text on.

    missing has, for each standing of which these are made, the least word that has none there, or None.
    """

    def __init__(self, amid, aims):
        self.amid = amid
        self.aims = aims
        self.ends = all_ends(amid, aims)
        self.alive = all_alive(amid, self.ends)
        self.alone = all_alone(amid, self.ends, self.alive)
        # For each state sets of places that do for all words behind them: of each two both have what the other lacks.
        self.covered = [[] for state in amid.lot[1]]
        self.missing = {standing: self._first_missing(standing) for standing in amid.standings}

    def good(self):
        """The standings from which each word has a text that leads to what is aimed at."""
        return {standing: True for standing in self.missing if self.missing[standing] is None}

    def _first_missing(self, standing):
        """The least word of the lot by which no text leads to what is aimed at; None where each has one."""
        seen = [list(sets) for sets in self.covered]
        ahead = []
        self._note(ahead, seen, 0, self.amid.set_of(standing), "")
        at = 0
        while at < len(ahead):
            state, places, word = ahead[at]
            if self.lacks_end(state, places):
                return word
            for sign, way, behind in self.amid.ways_on(state, places):
                self._note(ahead, seen, way, behind, word + sign)
            at += 1
        # Nothing is missing behind any of these, so none of them has to be looked at for another standing.
        self.covered = seen
        return None

    def lacks_end(self, state, places):
        """Whether a word ends with the lot's state, and by none of the places leads to what is aimed at."""
        return self.amid.lot[1][state][1] and places & self.ends[state] == 0

    def _note(self, ahead, seen, state, places, word):
        """Note what is to be looked at behind a word, but where nothing is missing or a lesser word misses it too."""
        hopeful = places & self.alive[state]
        # What is missing where more may be written is missing where just some of that may be.
        if hopeful & self.alone[state] or has_part_of(seen[state], hopeful):
            return
        seen[state] = [kept for kept in seen[state] if kept & hopeful != hopeful] + [hopeful]
        ahead.append((state, hopeful, word))


def numbers_in(places):
    """The numbers of the places in a set."""
    numbers = []
    left = places
    while left:
        low = left & -left
        numbers.append(low.bit_length() - 1)
        left = left ^ low
    return numbers


def has_part_of(sets, places):
    """Whether one of the sets has nothing that these places do not have."""
    for kept in sets:
        if kept & places == kept:
            return True
    return False


def all_ends(amid, aims):
    """For each state the set of places with which a word may end and lead to what is aimed at."""
    ends = [[[0] for place in places] for places in amid.places]
    for state, number in amid.order:
        standing, beyond = amid.places[state][number]
        if amid.lot[1][state][1] and beyond == "" and amid.afters[standing] in aims:
            ends[state][number] = [1]
    amid.through_silence(ends)
    return [sum([1 << at for at, (end,) in enumerate(row) if end]) for row in ends]


def all_alive(amid, ends):
    """For each state the set of places from which some word leads to what is aimed at."""
    alive = list(ends)
    again = True
    while again:
        again = False
        for state, number in reversed(amid.order):
            if not is_one_of(alive[state], number) and has_way_into(amid, alive, state, number):
                alive[state] |= 1 << number
                again = True
    return alive


def has_way_into(amid, sets, state, number):
    """Whether some sign leads from a place to one of these."""
    ways = amid.lot[1][state][0]
    return any([places & sets[way] for way, places in zip(ways, amid.leads[state][number]) if places])


def all_alone(amid, ends, alive):
    """For each state a set of places from each of which alone all words lead to what is aimed at, sign by sign."""
    alone = list(alive)
    again = True
    while again:
        again = False
        for state, number in reversed(amid.order):
            if is_one_of(alone[state], number) and not stays_alone(amid, ends, alone, state, number):
                alone[state] ^= 1 << number
                again = True
    return alone


def stays_alone(amid, ends, alone, state, number):
    """Whether a word may end with the place where one ends, and each sign leads to one place that is alone."""
    ways, may_end = amid.lot[1][state]
    if may_end and not is_one_of(ends[state], number):
        return False
    leads = zip(ways, amid.leads[state][number])
    return all([places & alone[way] for way, places in leads if way is not None])


def is_one_of(places, number):
    """Whether a set has the place of this number."""
    return places >> number & 1 == 1


def the_end():
    """What the last piece is to lead to, as others are to lead to standings that are good."""
    return {True: True}


def prospects(web, frame, i, standings):
    """The prospects of hole i and each one behind it, of these standings and those come to from them."""
    amids = []
    froms = standings
    for at in range(i, len(frame[1])):
        amids.append(Amid(web, frame, at, froms))
        froms = amids[-1].standings_next()
    found = []
    aims = the_end()
    for amid in reversed(amids):
        found.append(Prospect(amid, aims))
        aims = found[-1].good()
    return found[::-1]


def all_aims(web, frame):
    """For each hole the good ones of the standings come to, and behind the last hole the end: what pieces aim at."""
    first = piece_leads(web, frame, 0, None)
    found = prospects(web, frame, 0, [] if first is None else [first])
    return [prospect.good() for prospect in found] + [the_end()]


def writer_wins(web, frame):
    """Whether the writer wins; else the foe does."""
    return piece_leads(web, frame, 0, None) in all_aims(web, frame)[0]


def good(web, frame):
    """For each hole the sorted list of the good ones of the standings come to."""
    return [sorted(aims) for aims in all_aims(web, frame)[:-1]]


def is_shield(web, frame, thing):
    """Of anything, whether it is a shield of the web and frame that holds."""
    if not isinstance(thing, list) or len(thing) != len(frame[1]):
        return False
    if not all([are_standings(web, frame, i, part) for i, part in enumerate(thing)]):
        return False
    aims = [{standing: True for standing in part} for part in thing] + [the_end()]
    if piece_leads(web, frame, 0, None) not in aims[0]:
        return False
    for i, part in enumerate(thing):
        prospect = Prospect(Amid(web, frame, i, part), aims[i + 1])
        if len(prospect.good()) < len(part):
            return False
    return True


def are_standings(web, frame, i, thing):
    """Whether the thing is a list of standings at hole i, none twice."""
    if not isinstance(thing, list) or not all([is_standing(web, frame, i, part) for part in thing]):
        return False
    return len({standing: True for standing in thing}) == len(thing)
