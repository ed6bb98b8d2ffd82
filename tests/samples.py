"""Readers, rows and texts that several tests use, and slow ways to work things out again."""

import itertools
import random


def all_texts(signs, longest):
    """All texts of the signs up to a length, shorter ones ahead, equally long ones as the signs stand."""
    return ["".join(part) for many in range(longest + 1) for part in itertools.product(signs, repeat=many)]


# Tells a d for an a, cc for a pair of b (amid one a c for an a), and lets no text by that ends amid a pair.
PAIRS = ("ab", "cd", (
    (((0, "d"), (1, "cc")), ""),
    (((1, "c"), (0, "")), None),
))

# Counts what it reads by three, and tells at the end how many stand over.
THREES = ("cd", "xyz", (
    (((1, ""), (1, "")), "x"),
    (((2, ""), (2, "")), "y"),
    (((0, "zz"), (0, "z")), "z"),
))

# Tells a y where it reads a z, and does not let by a text whose last sign is an x.
SHY = ("xyz", "y", (
    (((1, ""), (0, ""), (0, "y")), "yyy"),
    (((1, ""), (0, ""), (0, "y")), None),
))

# Lets nothing by at all.
SHUT = ("ab", "cd", (
    (((0, "c"), (0, "d")), None),
))


def one_state(reads, tells, told="", end=""):
    """A reader of one state that tells the same by each way."""
    return (reads, tells, ((tuple([(0, told)] * len(reads)), end),))


def in_a_ring(many, sign="a"):
    """A reader of one sign and so many states, each with a way to the next one that tells b."""
    return (sign, "b", tuple([((((k + 1) % many, "b"),), "") for k in range(many)]))


def some_text(chance, signs, longest):
    return "".join(chance.choice(signs) for _ in range(chance.randint(0, longest)))


def some_reader(chance, reads, tells, many, shut=3):
    """A reader by chance; of its ends one of so many is None."""
    states = []
    for _ in range(many):
        ways = tuple((chance.randrange(many), some_text(chance, tells, 2)) for _ in reads)
        end = None if chance.randrange(shut) == 0 else some_text(chance, tells, 2)
        states.append((ways, end))
    return (reads, tells, tuple(states))


def some_rows(seed, many):
    """Rows of one to three readers, by chance but always the same."""
    chance = random.Random(seed)
    alphabets = ["ab", "cde", "fg", "hi"]
    for _ in range(many):
        length = chance.randint(1, 3)
        yield tuple(some_reader(chance, alphabets[k], alphabets[k + 1], chance.randint(1, 3), shut=4)
                    for k in range(length))


def slow_on(reader, text, state):
    """The state behind and what was told, one way after the other from the text's end on."""
    if text == "":
        return (state, "")
    ahead, told = slow_on(reader, text[:-1], state)
    after, part = reader[2][ahead][0][reader[0].find(text[-1])]
    return (after, told + part)


def slow_row_on(row, text, states):
    """The states behind and what was told, where the whole row goes on sign by sign."""
    held = list(states)
    told = ""
    for sign in text:
        part = sign
        for k, reader in enumerate(row):
            held[k], part = slow_on(reader, part, held[k])
        told += part
    return (tuple(held), told)


def slow_telling(reader, text):
    state, told = slow_on(reader, text, 0)
    end = reader[2][state][1]
    return None if end is None else told + end


def slow_row_telling(row, text):
    """Each reader reads the whole telling of the one ahead."""
    for reader in row:
        if text is None:
            return None
        text = slow_telling(reader, text)
    return text
