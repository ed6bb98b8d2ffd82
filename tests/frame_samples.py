"""Lots, webs and frames that several tests use, and slow ways to work things out again."""

import itertools
import random

from tests.samples import all_texts, slow_row_on, slow_row_telling, some_reader, some_text

# Of anything, what is no lot, frame, standing.
OTHER_THINGS = (
    None, True, False, 0, 3, -10 ** 59, 10 ** 59, "", "abc", (), [], {}, ((),), (None,), (0,), ("abc",), ([],), ({},),
    ((), ()), ((), (), ()), (0, 0), (None, None), (None, None, None), ("a", "b"), ("a", ()), ("a", ((),)), ((), 0),
    (True, False), ([], []), [[], []], ({}, {}), {"a": ()}, {0: 1}, tuple(range(5000)), [[]] * 2000,
)


def nested(depth):
    """A tuple within a list within a tuple and so on."""
    thing = ()
    for k in range(depth):
        thing = (thing,) if k % 2 else [thing]
    return thing


# All texts of a and b.
ALL = ("ab", (((0, 0), True),))
# The empty word alone.
EMPTY = ("ab", (((None, None), True),))
# No word at all.
NONE = ("ab", (((0, 0), False),))
# a, and b behind which any a may stand.
MIXED = ("ab", (((1, 2), False), ((None, None), True), ((2, None), True)))
# aaaaa alone: as long as a lot's one word may be.
LONG = ("a", tuple([((k + 1,), False) for k in range(5)]) + (((None,), True),))


def lot_of_words(signs, words):
    """A lot of just these words (of few enough beginnings): a state for each beginning."""
    begins = sorted({word[:k] for word in words for k in range(len(word) + 1)} | {""})
    return (signs, tuple([
        (tuple([begins.index(begin + sign) if begin + sign in begins else None for sign in signs]), begin in words)
        for begin in begins
    ]))


def some_lot(chance, signs, many):
    """A lot by chance, with a word or not."""
    return (signs, tuple([
        (tuple([chance.choice([None] + list(range(many))) for _ in signs]), chance.randrange(3) == 0)
        for _ in range(many)
    ]))


def slow_is_word(lot, text):
    def leads(state, rest):
        if state is None:
            return False
        ways, good = lot[1][state]
        if rest == "":
            return good
        return rest[0] in lot[0] and leads(ways[lot[0].find(rest[0])], rest[1:])
    return leads(0, text)


def slow_words(lot, longest):
    """All words of the lot up to a length, the least one first."""
    return [text for text in all_texts(lot[0], longest) if slow_is_word(lot, text)]


# Tells what it reads.
ECHO = ("ab", "ab", ((((0, "a"), (0, "b")), ""),))
# Tells c for each a, nothing for b.
ONLY_A = ("ab", "c", ((((0, "c"), (0, "")), ""),))
# Counts by two what it reads: d behind the second one; lets no odd text by.
TWOS = ("ab", "d", ((((1, ""), (1, "")), ""), (((0, "d"), (0, "d")), None)))
# Tells for each a nothing, for each b two signs: cd, dc by turns; at the end where it stands.
TURNS = ("ab", "cd", ((((0, ""), (1, "cd")), "c"), (((1, ""), (0, "dc")), "d")))
# Tells nothing of anything; a leads on in a ring of three.
QUIET = ("ab", "c", ((((1, ""), (0, "")), ""), (((2, ""), (1, "")), ""), (((0, ""), (2, "")), "")))


def well_dues(web, pieces, listeners, texts):
    """The words that texts make the holes' listeners tell, and dues with which all is well; None where none are."""
    parts = [pieces[0]] + [part for pair in zip(texts, pieces[1:]) for part in pair]
    words = [""] * len(texts)
    dues = []
    for k, row in enumerate(web):
        states = (0,) * len(row)
        own = [""]
        for at, part in enumerate(parts):
            states, told = slow_row_on(row, part, states)
            if at % 2 and listeners[at // 2] == k:
                words[at // 2] = told
                own.append("")
            else:
                own[-1] += told
        end = slow_at_end(row, states)
        if end is None or len(max(own, key=len) + end) > 20:
            return None
        own[-1] += end
        dues.append(tuple(own))
    return tuple(words), tuple(dues)


def some_web(chance):
    """A web of one or two rows of one or two readers, of few states."""
    rows = []
    for _ in range(chance.randint(1, 2)):
        many = chance.randint(1, 2)
        alphabets = ["ab", "cd", "ef"]
        rows.append(tuple(some_reader(chance, alphabets[k], alphabets[k + 1], chance.randint(1, 2), shut=6)
                          for k in range(many)))
    return tuple(rows)


def lot_with(chance, signs, word):
    """A lot by chance of which this is a word; it has few states."""
    while True:
        lot = some_lot(chance, signs, chance.randint(1, 3)) if len(word) < 4 else (signs, (((0,) * len(signs), True),))
        if slow_is_word(lot, word):
            return lot


def some_frames(seed, many):
    """Webs, frames of them, and words and texts that are well, by chance but always the same."""
    chance = random.Random(seed)
    told = 0
    while told < many:
        web = some_web(chance)
        length = chance.randint(0, 3)
        pieces = tuple([some_text(chance, "ab", 2) for _ in range(length + 1)])
        texts = tuple([some_text(chance, "ab", 3) for _ in range(length)])
        listeners = [chance.randrange(len(web)) for _ in range(length)]
        made = well_dues(web, pieces, listeners, texts)
        if made is not None:
            words, dues = made
            holes = tuple([(k, lot_with(chance, web[k][-1][1], word)) for k, word in zip(listeners, words)])
            told += 1
            yield web, (pieces, holes, dues), words, texts


def slow_wrong_at(web, frame, words, texts):
    """All that is wrong, the first of it told: each part is worked out from the whole text's beginnings."""
    pieces, holes, dues = frame
    wrong = [("word", i) for i, (_, lot) in enumerate(holes) if not slow_is_word(lot, words[i])]
    due = []
    for k in range(len(web)):
        rest = list(dues[k])
        telling = rest.pop(0)
        for i, (listener, _) in enumerate(holes):
            if listener == k:
                begin = "".join([pieces[j] + texts[j] for j in range(i)]) + pieces[i]
                for side, (text, word) in enumerate((("", ""), (texts[i], words[i]))):
                    if slow_row_on(web[k], begin + text, (0,) * len(web[k]))[1] != telling + word:
                        wrong.append(("edge", i, side))
                telling += words[i] + rest.pop(0)
        due.append(telling)
    all_of_it = "".join([piece + text for piece, text in zip(pieces, texts + ("",))])
    heard = [slow_row_telling(row, all_of_it) for row in web]
    wrong += [("shut", k) for k, telling in enumerate(heard) if telling is None]
    for k, telling in enumerate(heard):
        if telling is not None and telling != due[k]:
            alike = [a == b for a, b in itertools.zip_longest(telling, due[k])]
            wrong.append(("heard", k, alike.index(False)))
    order = ["word", "edge", "shut", "heard"]
    return min(wrong, key=lambda found: (order.index(found[0]), found[1:]), default=None)


def slow_present(frame, i, k):
    """The present text of listener k where the holes ahead of hole i are past."""
    return frame[2][k][len([hole for hole in frame[1][:i] if hole[0] == k])]


def slow_at_end(row, states):
    """What the row tells where the text ends, reader by reader; None where one doesn't let it by."""
    told = ""
    for reader, state in zip(row, states):
        (after,), by_ways = slow_row_on((reader,), told, (state,))
        end = reader[2][after][1]
        if end is None:
            return None
        told = by_ways + end
    return told


def slow_piece_leads(web, frame, i, standing):
    pieces, holes, _ = frame
    states, come = standing or (tuple((0,) * len(row) for row in web), (0,) * len(web))
    behind = []
    for k, row in enumerate(web):
        after, told = slow_row_on(row, pieces[i], states[k])
        rest = slow_present(frame, i, k)[come[k]:]
        if i == len(holes):
            end = slow_at_end(row, after)
            if end is None or told + end != rest:
                return None
        elif not rest.startswith(told) or (k == holes[i][0] and rest != told):
            return None
        behind.append((after, come[k] + len(told)))
    if i == len(holes):
        return True
    return (tuple(after for after, _ in behind), tuple(far for _, far in behind))


def slow_hole_leads(web, frame, i, standing, text):
    listener = frame[1][i][0]
    word = None
    behind = []
    for k, row in enumerate(web):
        after, told = slow_row_on(row, text, standing[0][k])
        if k == listener:
            word = told
            behind.append((after, 0))
        elif slow_present(frame, i, k)[standing[1][k]:].startswith(told):
            behind.append((after, standing[1][k] + len(told)))
        else:
            return None
    return (word, (tuple(after for after, _ in behind), tuple(far for _, far in behind)))


def slow_behind(web, frame, i, standing, word):
    """All standings behind, by rounds of one sign more, until a round brings nothing new."""
    listener = frame[1][i][0]
    full = standing[1][listener]
    found = {(standing, "")}
    many = 0
    while many < len(found):
        many = len(found)
        for here, begin in list(found):
            for sign in web[0][0][0]:
                led = slow_hole_leads(web, frame, i, here, sign)
                if led is not None and word.startswith(begin + led[0]):
                    states, come = led[1]
                    found.add(((states, come[:listener] + (full,) + come[listener + 1:]), begin + led[0]))
    return sorted({(states, come[:listener] + (0,) + come[listener + 1:])
                   for (states, come), told in found if told == word})


def slow_come_to(web, frame):
    """For each hole those come to, by rounds of one sign more from all standings and states of the lot."""
    lists = []
    for i in range(len(frame[1])):
        froms = [None] if i == 0 else slow_behind_lot(web, frame, i - 1, lists[-1])
        leads = [slow_piece_leads(web, frame, i, here) for here in froms]
        lists.append(sorted({here for here in leads if here is not None}))
    return lists


def slow_behind_lot(web, frame, i, standings):
    """All standings behind hole i to which texts lead that make words of the lot heard."""
    listener, (signs, states) = frame[1][i]
    found = {(here, 0) for here in standings}
    many = -1
    while many < len(found):
        many = len(found)
        for here, state in list(found):
            for sign in web[0][0][0]:
                led = slow_hole_leads(web, frame, i, here, sign)
                after = state
                for told in "" if led is None else led[0]:
                    ways = (None,) * len(signs) if after is None else states[after][0]
                    after = ways[signs.find(told)] if told in signs else None
                if led is not None and after is not None:
                    come = led[1][1]
                    come = come[:listener] + (here[1][listener],) + come[listener + 1:]
                    found.add(((led[1][0], come), after))
    return {(here[0], here[1][:listener] + (0,) + here[1][listener + 1:]) for here, state in found if states[state][1]}
