"""Webs and frames in which much may be written, and slow ways to work out who wins them."""

import random

from tests.frame_samples import slow_behind, slow_come_to, slow_piece_leads, slow_words, some_lot, well_dues


def busy_reader(chance, reads, tells, many):
    """A reader by chance that mostly tells one sign by a way, and lets most texts by."""
    states = []
    for _ in range(many):
        ways = tuple((chance.randrange(many), "".join(chance.choices(tells, k=chance.choice((0, 1, 1, 1, 2)))))
                     for _ in reads)
        states.append((ways, chance.choice(("", "", "", tells[0], None))))
    return (reads, tells, tuple(states))


def drowsy_reader(chance, reads, tells, many):
    """A reader by chance that mostly tells nothing."""
    states = []
    for _ in range(many):
        ways = tuple((chance.randrange(many), chance.choice(("", "", "", tells[0]))) for _ in reads)
        states.append((ways, chance.choice(("", "", "", None))))
    return (reads, tells, tuple(states))


def some_plays(seed, many):
    """Webs and frames of none to three holes, by chance but always the same."""
    chance = random.Random(seed)
    told = 0
    while told < many:
        signs = "abc"[:chance.randint(2, 3)]
        rows = [(busy_reader(chance, signs, "xy", chance.randint(1, 4)),)]
        if chance.randrange(2):
            rows.append((drowsy_reader(chance, signs, "uv", chance.randint(1, 3)),))
        if chance.randrange(4) == 0:
            rows[0] = rows[0] + (busy_reader(chance, "xy", "xy", chance.randint(1, 2)),)
        web = tuple(rows)
        holes = tuple([(k, some_hopeful_lot(chance, web[k][-1][1]))
                       for k in [0 if chance.randrange(5) else len(web) - 1 for _ in range(chance.randint(0, 3))]])
        pieces = tuple(["".join(chance.choice(signs) for _ in range(chance.choice((0, 0, 1, 2))))
                        for _ in range(len(holes) + 1)])
        dues = likely_dues(chance, web, pieces, [k for k, _ in holes])
        if dues is not None:
            told += 1
            yield web, (pieces, holes, dues)


def some_hopeful_lot(chance, signs):
    """A lot by chance that has a word."""
    while True:
        lot = some_lot(chance, signs[:chance.randint(1, len(signs))], chance.randint(1, 3))
        if slow_words(lot, 3):
            return lot


def likely_dues(chance, web, pieces, listeners):
    """Dues that some whole text with short texts for the holes makes heard; None where none was found."""
    for _ in range(20):
        texts = tuple(["".join(chance.choice(web[0][0][0]) for _ in range(chance.randint(0, 3))) for _ in listeners])
        made = well_dues(web, pieces, listeners, texts)
        if made is not None:
            return made[1]
    return None


def slow_missing(web, frame, i, standing, longest, known=None):
    """The least word of the lot, of those up to a length, that no text leads on well by; None where each has one."""
    known = {} if known is None else known
    if (i, standing) not in known:
        missing = [word for word in slow_words(frame[1][i][1], longest)
                   if not slow_good_next(web, frame, i, standing, word, longest, known)]
        known[i, standing] = missing[0] if missing else None
    return known[i, standing]


def slow_good_next(web, frame, i, standing, word, longest, known):
    """Whether from behind the word the next piece leads to a good standing, or the end."""
    for behind in slow_behind(web, frame, i, standing, word):
        after = slow_piece_leads(web, frame, i + 1, behind)
        if after is True or after is not None and slow_missing(web, frame, i + 1, after, longest, known) is None:
            return True
    return False


def slow_good(web, frame, longest):
    """For each hole those of the standings come to from which each word up to a length has a text."""
    known = {}
    return [[here for here in those if slow_missing(web, frame, i, here, longest, known) is None]
            for i, those in enumerate(slow_come_to(web, frame))]
