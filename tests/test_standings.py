"""Standings: where pieces and texts lead, what is come to, and what is a standing at a hole."""

import copy
import random
import unittest
import unittest.mock

from foeholes.frames import is_frame, whole, wrong_at
from foeholes.lots import is_word
from foeholes.rows import is_web, row_on
from foeholes.standings import behind, come_to, hole_leads, is_standing, piece_leads
from tests.frame_samples import (
    ALL, ECHO, EMPTY, MIXED, ONLY_A, OTHER_THINGS, QUIET, TURNS, TWOS, lot_of_words, nested, slow_behind, slow_come_to,
    slow_hole_leads, slow_piece_leads, slow_present, slow_words, some_frames,
)
from tests.samples import PAIRS, THREES, all_texts, one_state, slow_row_on, some_text

TWO = ((ECHO,), (ECHO, ONLY_A))
THREE = ((ECHO, TWOS), (ECHO,), (TURNS,))
CS = ("c", (((0,), True),))
DS = ("d", (((0,), True),))
CDS = ("cd", (((0, 0), True),))

# Of TWO: a hole for each listener. The first one's word has one a, the second one's text two.
BOTH = (("a", "b", "a"), ((0, MIXED), (1, CS)), (("a", "baaa"), ("cc", "c")))
# The states of TWO, of which each reader has one alone.
STILL = ((0,), (0, 0))
# Of THREE: the holes go to listeners 1, 0, 1, none to 2.
MANY = (
    ("a", "b", "", "aa"), ((1, ALL), (0, DS), (1, MIXED)),
    (("d", "d"), ("a", "baa", "aa"), ("cd",)),
)
AT_2 = (((0, 1), (0,), (1,)), (1, 3, 2))


def of_one(reader, lot, dues=("", ""), pieces=("", "")):
    """A web of one reader, and a frame of it with one hole."""
    web, frame = ((reader,),), (pieces, ((0, lot),), (dues,))
    assert is_web(web) and is_frame(web, frame)
    return web, frame


def at(state, come=0):
    """A standing of a web of one reader."""
    return (((state,),), (come,))


class TestPieceLeads(unittest.TestCase):
    def told(self, led, web, frame, i, standing):
        with self.subTest(web=web, frame=frame, i=i, standing=standing):
            self.assertTrue(is_frame(web, frame))
            ahead = copy.deepcopy((web, frame, standing))
            found = piece_leads(web, frame, i, standing)
            self.assertEqual(found, led)
            self.assertEqual(slow_piece_leads(web, frame, i, standing), led)
            self.assertIs(found is True, led is True)
            self.assertEqual((web, frame, standing), ahead)

    def test_piece_0(self):
        self.told((STILL, (1, 1)), TWO, BOTH, 0, None)
        self.told((((0, 1), (0,), (0,)), (0, 1, 0)), THREE, (MANY[0], MANY[1], (("d", "d"), ("a", "", ""), ("cd",))),
                  0, None)

    def test_an_empty_piece_0(self):
        web, frame = of_one(TURNS, CDS)
        self.told(at(0), web, frame, 0, None)
        web, frame = of_one(TURNS, CDS, dues=("c", ""))
        self.told(None, web, frame, 0, None)

    def test_further_pieces(self):
        self.told((STILL, (1, 2)), TWO, BOTH, 1, (STILL, (0, 2)))
        self.told((((0, 0), (0,), (0,)), (0, 3, 2)), THREE, MANY, 2, (((0, 0), (0,), (0,)), (0, 3, 2)))

    def test_further_pieces_go_on_from_the_states_there(self):
        web = ((TURNS,),)
        frame = (("", "b", ""), ((0, CDS), (0, CDS)), (("", "dc", ""),))
        self.told(at(0, 2), web, frame, 1, at(1))
        self.told(None, web, frame, 1, at(0))

    def test_numbers_go_on_for_the_listeners_whose_hole_it_was_not(self):
        frame = (("", "a", ""), ((0, ALL), (0, ALL)), (("", "a", ""), ("ccc",)))
        self.told((STILL, (1, 2)), TWO, frame, 1, (STILL, (0, 1)))
        self.told((STILL, (1, 3)), TWO, frame, 1, (STILL, (0, 2)))
        self.told(None, TWO, frame, 1, (STILL, (0, 3)))

    def test_a_telling_that_does_not_go_on(self):
        # Another sign, and too many, of the hole's listener and of another one.
        pieces, holes, dues = BOTH
        self.told(None, TWO, (pieces, holes, (("b", "baaa"), dues[1])), 0, None)
        self.told(None, TWO, (pieces, holes, (("", "baaa"), dues[1])), 0, None)
        self.told(None, TWO, (pieces, holes, (dues[0], ("", "c"))), 0, None)
        web = ((ECHO,), (TURNS,))
        for due, led in (("cd", (((0,), (1,)), (1, 2))), ("c", None), ("dc", None), ("cc", None), ("", None),
                         ("cdd", (((0,), (1,)), (1, 2)))):
            self.told(led, web, (("b", ""), ((0, ALL),), (("b", ""), (due,))), 0, None)

    def test_what_was_told_already_does_not_count_again(self):
        self.told(None, TWO, BOTH, 1, (STILL, (1, 2)))
        frame = (("", "a", ""), ((1, CS), (1, CS)), (("aa",), ("", "c", "")))
        self.told((STILL, (2, 1)), TWO, frame, 1, (STILL, (1, 0)))
        self.told(None, TWO, frame, 1, (STILL, (2, 0)))

    def test_the_holes_listener_not_all_the_way(self):
        self.told(None, TWO, BOTH, 1, (STILL, (0, 1)))
        web, frame = of_one(ECHO, ALL, ("ab", ""), ("a", ""))
        self.told(None, web, frame, 0, None)
        # Another listener may have told less.
        self.told((STILL, (1, 1)), TWO, (("a", "b", "a"), BOTH[1], (("a", "b"), ("c" * 20, "c"))), 0, None)

    def test_present_texts_are_those_behind_the_last_past_hole(self):
        # Of listener 1 the second text is due at hole 1 and the third one behind hole 2, of listener 0 the first.
        frame = (MANY[0], MANY[1], (("d", "d"), ("a", "bab", "aa"), ("cd" * 9,)))
        self.told((((0, 0), (0,), (1,)), (1, 1, 2)), THREE, frame, 1, (((0, 1), (0,), (0,)), (0, 0, 0)))
        self.told(True, THREE, (MANY[0], MANY[1], (("d", "d"), ("a", "bab", "aa"), ("cdd",))),
                  3, (((0, 0), (0,), (1,)), (0, 0, 2)))
        self.told(None, THREE, (MANY[0], MANY[1], (("d", "d"), ("a", "bab", "aa"), ("cdc",))),
                  3, (((0, 0), (0,), (1,)), (0, 0, 2)))

    def test_the_last_piece_leads_to_the_end(self):
        self.told(True, TWO, BOTH, 2, (STILL, (3, 0)))
        self.assertIs(piece_leads(TWO, BOTH, 2, (STILL, (3, 0))), True)

    def test_the_last_piece_where_a_listener_has_not_told_all(self):
        self.told(None, TWO, BOTH, 2, (STILL, (2, 0)))
        self.told(None, TWO, (BOTH[0], BOTH[1], (("a", "baaa"), ("cc", "cc"))), 2, (STILL, (3, 0)))
        self.told(None, TWO, (BOTH[0], BOTH[1], (("a", "baaaa"), ("cc", "c"))), 2, (STILL, (3, 0)))

    def test_the_last_piece_where_a_telling_does_not_go_on(self):
        self.told(None, TWO, BOTH, 2, (STILL, (4, 0)))
        self.told(None, TWO, (BOTH[0], BOTH[1], (("a", "baab"), ("cc", "c"))), 2, (STILL, (3, 0)))
        self.told(None, TWO, (BOTH[0], BOTH[1], (("a", "baaa"), ("cc", ""))), 2, (STILL, (3, 0)))

    def test_a_frame_without_holes(self):
        self.told(True, TWO, (("aba",), (), (("aba",), ("cc",))), 0, None)
        self.told(True, TWO, (("",), (), (("",), ("",))), 0, None)
        self.told(None, TWO, (("aba",), (), (("ab",), ("cc",))), 0, None)
        self.told(None, TWO, (("aba",), (), (("aba",), ("ccc",))), 0, None)
        self.told(None, TWO, (("aba",), (), (("aba",), ("c",))), 0, None)

    def test_ends_are_told_too(self):
        web = ((TURNS,),)
        self.told(True, web, (("bb",), (), (("cddcc",),)), 0, None)
        self.told(True, web, (("b",), (), (("cdd",),)), 0, None)
        self.told(None, web, (("b",), (), (("cd",),)), 0, None)
        self.told(None, web, (("b",), (), (("cdc",),)), 0, None)
        self.told(None, web, (("b",), (), (("cddd",),)), 0, None)
        web, frame = of_one(TURNS, CDS, ("", "dcc"), ("", "b"))
        self.told(True, web, frame, 1, at(1))
        self.told(None, web, frame, 1, at(0))

    def test_ends_of_a_row_are_read_on_in_it(self):
        web = ((PAIRS, THREES),)
        self.told(True, web, (("bab",), (), (("zzx",),)), 0, None)
        web = ((TURNS, THREES),)
        # TURNS tells c at its end, behind which THREES has counted three.
        self.told(True, web, (("b",), (), (("zx",),)), 0, None)
        self.told(None, web, (("b",), (), (("zz",),)), 0, None)

    def test_ends_do_not_count_ahead_of_a_hole(self):
        web, frame = of_one(TURNS, CDS, ("cd", "d"), ("b", ""))
        self.told(at(1, 2), web, frame, 0, None)
        web, frame = of_one(TURNS, CDS, ("cdd", "d"), ("b", ""))
        self.told(None, web, frame, 0, None)
        # And it does not matter whether a listener would let it by.
        web, frame = of_one(TWOS, DS, ("", "d"), ("a", "a"))
        self.told(at(1), web, frame, 0, None)

    def test_the_last_piece_where_a_listener_does_not_let_by(self):
        web, frame = of_one(TWOS, DS, ("", ""), ("", "a"))
        self.told(None, web, frame, 1, at(0))
        web, frame = of_one(TWOS, DS, ("", "d"), ("", "a"))
        self.told(True, web, frame, 1, at(1))
        web = ((ECHO,), (TWOS,))
        self.told(True, web, (("aa",), (), (("aa",), ("d",))), 0, None)
        self.told(None, web, (("aab",), (), (("aab",), ("d",))), 0, None)

    def test_the_way_through_a_frame_with_three_holes(self):
        frame = (MANY[0], MANY[1], (("dd", "dd"), ("a", "bbbbb", "aa"), ("cddccddccddccdd",)))
        self.told((((0, 1), (0,), (0,)), (0, 1, 0)), THREE, frame, 0, None)
        self.told((((0, 0), (0,), (0,)), (2, 1, 4)), THREE, frame, 1, (((0, 1), (0,), (1,)), (1, 0, 2)))
        self.told((((0, 0), (0,), (0,)), (0, 5, 12)), THREE, frame, 2, (((0, 0), (0,), (0,)), (0, 5, 12)))
        self.told(True, THREE, frame, 3, (((0, 0), (0,), (1,)), (1, 0, 14)))
        self.assertEqual(walked(THREE, frame, ("ba", "bbbb", "ba")), (("ba", "dd", "ba"), True))
        self.assertIsNone(wrong_at(THREE, frame, ("ba", "dd", "ba"), ("ba", "bbbb", "ba")))

    def test_against_a_slow_way(self):
        found = {True: 0, False: 0}
        for web, frame, standing, i in standings_behind(110, 1000):
            led = piece_leads(web, frame, i, standing)
            self.assertEqual(led, slow_piece_leads(web, frame, i, standing))
            found[led is None] += 1
        self.assertGreater(min(found.values()), 100)


def some_standings(seed, many):
    """Webs, frames, standings at a hole (come to or not), the hole's number and a text."""
    chance = random.Random(seed)
    for web, frame, _, texts in some_frames(seed, many):
        if not frame[1]:
            continue
        i = chance.randrange(len(frame[1]))
        states = tuple([tuple([chance.randrange(len(reader[2])) for reader in row]) for row in web])
        ways = [len(slow_present(frame, i, k)) for k in range(len(web))]
        come = [far if k == frame[1][i][0] else chance.randint(0, far) for k, far in enumerate(ways)]
        yield web, frame, (states, tuple(come)), i, chance.choice([texts[i], some_text(chance, "ab", 4)])


def standings_behind(seed, many):
    """Webs, frames, standings behind a hole to which a text leads and the number of the next piece; or None and 0."""
    for web, frame, _, _ in some_frames(seed, many):
        yield web, frame, None, 0
    for web, frame, standing, i, text in some_standings(seed, many):
        led = slow_hole_leads(web, frame, i, standing, text)
        if led is not None:
            yield web, frame, led[1], i + 1


class TestHoleLeads(unittest.TestCase):
    def told(self, led, web, frame, i, standing, text):
        with self.subTest(web=web, frame=frame, i=i, standing=standing, text=text):
            self.assertTrue(is_frame(web, frame))
            self.assertTrue(is_standing(web, frame, i, standing))
            ahead = copy.deepcopy((web, frame, standing))
            self.assertEqual(hole_leads(web, frame, i, standing, text), led)
            self.assertEqual(slow_hole_leads(web, frame, i, standing, text), led)
            self.assertEqual((web, frame, standing), ahead)

    def test_the_empty_text(self):
        self.told(("", (STILL, (0, 1))), TWO, BOTH, 0, (STILL, (1, 1)), "")
        self.told(("", (STILL, (1, 0))), TWO, BOTH, 1, (STILL, (1, 2)), "")
        self.told(("", (AT_2[0], (1, 0, 2))), THREE, MANY, 2, AT_2, "")

    def test_numbers_behind_the_hole(self):
        self.told(("ba", (STILL, (0, 2))), TWO, BOTH, 0, (STILL, (1, 1)), "ba")
        self.told(("bb", (STILL, (0, 1))), TWO, BOTH, 0, (STILL, (1, 1)), "bb")
        self.told(("cc", (STILL, (3, 0))), TWO, BOTH, 1, (STILL, (1, 2)), "aa")
        self.told(("", (((0, 1), (0,), (0,)), (0, 0, 0))), THREE,
                  (("", "", ""), ((1, ALL), (0, DS)), (("", ""), ("", "b"), ("cd",))), 0,
                  (((0, 1), (0,), (0,)), (0, 0, 0)), "")

    def test_the_words_need_not_be_of_the_lot(self):
        self.told(("bba", (STILL, (0, 2))), TWO, BOTH, 0, (STILL, (1, 1)), "bba")
        self.told(("", (STILL, (0, 1))), TWO, (BOTH[0], ((0, MIXED), BOTH[1][1]), BOTH[2]), 0, (STILL, (1, 1)), "")
        web, frame = of_one(ECHO, EMPTY)
        self.told(("abba", at(0)), web, frame, 0, at(0), "abba")

    def test_another_listener_parts(self):
        self.told(None, TWO, BOTH, 0, (STILL, (1, 1)), "aa")
        self.told(None, TWO, BOTH, 0, (STILL, (1, 2)), "a")
        self.told(None, TWO, BOTH, 1, (STILL, (1, 2)), "b")
        self.told(None, TWO, BOTH, 1, (STILL, (1, 2)), "ab")
        self.told(None, TWO, BOTH, 1, (STILL, (1, 2)), "aaaa")
        self.told(("ccc", (STILL, (4, 0))), TWO, BOTH, 1, (STILL, (1, 2)), "aaa")

    def test_another_listener_parts_though_the_text_comes_back(self):
        # b makes TURNS tell cd, then dc: both together do not go on "cdcd".
        web = ((ECHO,), (TURNS,))
        frame = (("", ""), ((0, ALL),), (("", ""), ("cdcd",)))
        self.told(("b", (((0,), (1,)), (0, 2))), web, frame, 0, (((0,), (0,)), (0, 0)), "b")
        self.told(None, web, frame, 0, (((0,), (0,)), (0, 0)), "bb")
        self.told(("aba", (((0,), (1,)), (0, 4))), web, frame, 0, (((0,), (0,)), (0, 2)), "aba")
        self.told(None, web, frame, 0, (((0,), (0,)), (0, 1)), "b")
        self.told(("b", (((0,), (0,)), (0, 3))), web, frame, 0, (((0,), (1,)), (0, 1)), "b")

    def test_states_behind_the_hole(self):
        web, frame = of_one(PAIRS, CDS)
        self.told(("ccc", at(1)), web, frame, 0, at(0), "ba")
        self.told(("ccdcc", at(1)), web, frame, 0, at(0), "bbab")
        self.told(("ccd", at(0)), web, frame, 0, at(1), "aaba")

    def test_ends_do_not_count(self):
        web, frame = of_one(TURNS, CDS)
        self.told(("cd", at(1)), web, frame, 0, at(0), "b")
        web, frame = of_one(TWOS, DS)
        self.told(("d", at(1)), web, frame, 0, at(0), "aaa")

    def test_a_full_number_goes_to_none_behind_the_hole(self):
        web, frame = of_one(ECHO, ALL, ("ab", ""), ("ab", ""))
        self.told(("ba", at(0)), web, frame, 0, at(0, 2), "ba")

    def test_long_texts(self):
        web, frame = of_one(ECHO, ALL)
        self.told(("ab" * 100, at(0)), web, frame, 0, at(0), "ab" * 100)

    def test_a_standing_that_is_not_come_to(self):
        web, frame = of_one(TURNS, CDS)
        self.assertEqual(come_to(web, frame), [[at(0)]])
        self.told(("dc", at(0)), web, frame, 0, at(1), "b")

    def test_against_a_slow_way(self):
        found = {True: 0, False: 0}
        for web, frame, standing, i, text in some_standings(111, 1500):
            led = hole_leads(web, frame, i, standing, text)
            self.assertEqual(led, slow_hole_leads(web, frame, i, standing, text))
            found[led is None] += 1
        self.assertGreater(min(found.values()), 100)

    def test_pieces_and_texts_lead_to_the_end_just_where_it_is_well(self):
        chance = random.Random(112)
        found = {True: 0, False: 0}
        for web, frame, _, texts in some_frames(113, 800):
            if frame[1] and chance.randrange(2):
                k = chance.randrange(len(texts))
                texts = texts[:k] + (some_text(chance, "ab", 3),) + texts[k + 1:]
            words, end = walked(web, frame, texts)
            kind = end is True and all(is_word(lot, word) for (_, lot), word in zip(frame[1], words))
            self.assertIs(kind, wrong_at(web, frame, heard_in_holes(web, frame, texts), texts) is None)
            if kind:
                self.assertEqual(words, heard_in_holes(web, frame, texts))
            found[kind] += 1
        self.assertGreater(min(found.values()), 100)


def walked(web, frame, texts):
    """The words that texts make heard, and where the last piece leads; no words from where it leads to none."""
    words = []
    here = piece_leads(web, frame, 0, None)
    for i, text in enumerate(texts):
        led = None if here is None else hole_leads(web, frame, i, here, text)
        if led is None:
            return tuple(words), None
        words.append(led[0])
        here = piece_leads(web, frame, i + 1, led[1])
    return tuple(words), here


def heard_in_holes(web, frame, texts):
    """What each hole's listener tells amid its text, right or not."""
    words = []
    for i, (listener, _) in enumerate(frame[1]):
        row = web[listener]
        begin = whole((frame[0][:i + 1],), texts[:i])
        words.append(slow_row_on(row, texts[i], slow_row_on(row, begin, (0,) * len(row))[0])[1])
    return tuple(words)


class TestBehind(unittest.TestCase):
    def told(self, found, web, frame, i, standing, word):
        with self.subTest(web=web, frame=frame, i=i, standing=standing, word=word):
            self.assertTrue(is_frame(web, frame))
            self.assertTrue(is_standing(web, frame, i, standing))
            ahead = copy.deepcopy((web, frame, standing))
            told = behind(web, frame, i, standing, word)
            self.assertIsInstance(told, list)
            self.assertEqual(told, found)
            self.assertEqual(slow_behind(web, frame, i, standing, word), found)
            self.assertEqual((web, frame, standing), ahead)

    def test_words_of_the_lot_and_not(self):
        self.told([(STILL, (0, 2))], TWO, BOTH, 0, (STILL, (1, 1)), "a")
        self.told([(STILL, (0, 2))], TWO, BOTH, 0, (STILL, (1, 1)), "ba")
        self.told([(STILL, (0, 1))], TWO, BOTH, 0, (STILL, (1, 1)), "bb")
        self.told([(STILL, (0, 2))], TWO, BOTH, 0, (STILL, (1, 1)), "bbbabb")
        self.told([], TWO, BOTH, 0, (STILL, (1, 1)), "aa")
        self.told([(STILL, (3, 0))], TWO, BOTH, 1, (STILL, (1, 2)), "cc")
        self.told([], TWO, BOTH, 1, (STILL, (1, 2)), "cccc")

    def test_signs_of_the_tells_that_the_lot_does_not_have(self):
        web, frame = of_one(ECHO, ("a", (((0,), True),)))
        self.told([at(0)], web, frame, 0, at(0), "bab")

    def test_the_empty_word(self):
        self.told([(STILL, (0, 1))], TWO, BOTH, 0, (STILL, (1, 1)), "")
        # In hole 1 a b tells its listener nothing, but the other one's text does not go on so.
        self.told([(STILL, (1, 0))], TWO, BOTH, 1, (STILL, (1, 2)), "")
        frame = (BOTH[0], BOTH[1], (("a", "bbba"), ("cc", "c")))
        self.told([(STILL, (1, 0)), (STILL, (2, 0)), (STILL, (3, 0))], TWO, frame, 1, (STILL, (1, 2)), "")

    def test_the_number_of_the_holes_listener_is_full_ahead_and_0_behind(self):
        web, frame = of_one(ECHO, ALL, ("abab", "b"), ("abab", "b"))
        self.told([at(0)], web, frame, 0, at(0, 4), "ab")

    def test_signs_that_tell_nothing_and_lead_in_a_ring(self):
        web, frame = of_one(QUIET, CS)
        for state in range(3):
            self.told([at(0), at(1), at(2)], web, frame, 0, at(state), "")
            self.told([], web, frame, 0, at(state), "c")
        # A ring beside one sign that tells.
        ring = ("ab", "c", ((((1, ""), (0, "c")), ""), (((2, ""), (1, "")), ""), (((0, ""), (2, "")), "")))
        web, frame = of_one(ring, CS)
        self.told([at(0), at(1), at(2)], web, frame, 0, at(1), "c" * 60)

    def test_each_once_and_sorted(self):
        web, frame = of_one(PAIRS, CDS)
        self.told([at(0), at(1)], web, frame, 0, at(0), "ccc")
        self.told([at(0), at(1)], web, frame, 0, at(1), "")
        self.told([at(0)], web, frame, 0, at(0), "ccd")
        self.told([at(0)], web, frame, 0, at(0), "")
        # b and c lead to the same place; the one of the greater number is come to first.
        both = ("abc", "d", ((((2, ""), (1, "d"), (1, "d")), ""), (((1, ""), (1, ""), (1, "")), ""),
                             (((0, "d"), (2, "d"), (2, "d")), "")))
        web, frame = of_one(both, DS)
        self.told([at(0), at(1), at(2)], web, frame, 0, at(0), "d")

    def test_several_signs_at_once(self):
        web, frame = of_one(TURNS, CDS)
        self.told([at(1)], web, frame, 0, at(0), "cd")
        self.told([at(0)], web, frame, 0, at(0), "cddc")
        self.told([at(1)], web, frame, 0, at(0), "cddccd")
        for word in ("c", "d", "dc", "cdd", "cdc", "cdcd", "cddcc", "cddcd", "cddccc"):
            self.told([], web, frame, 0, at(0), word)

    def test_other_listeners_tell_several_signs_at_once(self):
        web = ((ECHO,), (TURNS,))
        frame = (("", ""), ((0, ALL),), (("", ""), ("cddc",)))
        here = (((0,), (0,)), (0, 0))
        self.told([(((0,), (0,)), (0, 0))], web, frame, 0, here, "aa")
        self.told([(((0,), (1,)), (0, 2))], web, frame, 0, here, "aba")
        self.told([(((0,), (0,)), (0, 4))], web, frame, 0, here, "bb")
        self.told([], web, frame, 0, here, "bbb")
        frame = frame[:2] + ((("", ""), ("cdd",)),)
        self.told([], web, frame, 0, here, "bb")

    def test_a_state_of_a_row_that_tells_several_signs_at_once(self):
        long = one_state("ab", "ab", "aaa")
        web = ((long, long, long),)
        frame = (("", ""), ((0, ALL),), (("", ""),))
        here = (((0, 0, 0),), (0,))
        self.told([here], web, frame, 0, here, "a" * 54)
        self.told([], web, frame, 0, here, "a" * 53)
        self.told([here], web, frame, 0, here, "")

    def test_unlike_standings_by_what_the_others_tell(self):
        # A listener that hears the a alone: in the hole each word may have any b amid it.
        web = ((("ab", "c", ((((0, "c"), (0, "")), ""),)),), (ECHO,))
        frame = (("", "", ""), ((0, CS), (0, CS)), (("", "", ""), ("babb",)))
        here = (((0,), (0,)), (0, 0))
        self.told([(((0,), (0,)), (0, 2)), (((0,), (0,)), (0, 3)), (((0,), (0,)), (0, 4))], web, frame, 0, here, "c")
        self.told([(((0,), (0,)), (0, 0)), (((0,), (0,)), (0, 1))], web, frame, 0, here, "")
        self.told([(((0,), (0,)), (0, far)) for far in (2, 3, 4)], web, frame, 1, (((0,), (0,)), (0, 2)), "")

    def test_words_of_sixty_signs(self):
        web, frame = of_one(ECHO, ALL)
        self.told([at(0)], web, frame, 0, at(0), "ab" * 30)
        web, frame = of_one(PAIRS, CDS)
        self.told([at(0), at(1)], web, frame, 0, at(0), "c" * 60)

    def test_told_lists_are_the_askers_own(self):
        told = behind(TWO, BOTH, 0, (STILL, (1, 1)), "a")
        told.append(None)
        self.assertEqual(behind(TWO, BOTH, 0, (STILL, (1, 1)), "a"), [(STILL, (0, 2))])

    def test_against_a_slow_way(self):
        found = {}
        for web, frame, standing, i, _ in some_standings(114, 300):
            tells = web[frame[1][i][0]][-1][1]
            for word in slow_words(frame[1][i][1], 3)[:5] + all_texts(tells, 2):
                told = behind(web, frame, i, standing, word)
                self.assertEqual(told, slow_behind(web, frame, i, standing, word))
                found[min(len(told), 3)] = found.get(min(len(told), 3), 0) + 1
        self.assertGreater(min(found[many] for many in range(4)), 20)

    def test_texts_lead_there(self):
        for web, frame, standing, i, _ in some_standings(115, 120):
            for text in all_texts("ab", 4):
                led = hole_leads(web, frame, i, standing, text)
                if led is not None:
                    self.assertIn(led[1], behind(web, frame, i, standing, led[0]))


class TestComeTo(unittest.TestCase):
    def told(self, found, web, frame):
        with self.subTest(web=web, frame=frame):
            self.assertTrue(is_frame(web, frame))
            ahead = copy.deepcopy((web, frame))
            told = come_to(web, frame)
            self.assertIsInstance(told, list)
            self.assertTrue(all(isinstance(part, list) for part in told))
            self.assertEqual(told, found)
            self.assertEqual((web, frame), ahead)

    def test_no_holes(self):
        self.told([], TWO, (("aba",), (), (("aba",), ("cc",))))
        self.told([], TWO, (("aba",), (), (("",), ("",))))

    def test_a_list_for_each_hole(self):
        self.told([[(STILL, (1, 1))], [(STILL, (1, 2))]], TWO, BOTH)
        still = at(0)
        texts = ("",) * 5
        self.told([[still]] * 4, ((ECHO,),), (texts, ((0, ALL),) * 4, (texts,)))

    def test_empty_lists_where_piece_0_leads_to_none(self):
        pieces, holes, dues = BOTH
        self.told([[], []], TWO, (pieces, holes, (("b", "baaa"), dues[1])))

    def test_empty_lists_behind_one_to_which_nothing_leads(self):
        frame = (("", "a", "", ""), ((0, ALL),) * 3, (("", "b", "", ""),))
        self.told([[at(0)], [], []], ((ECHO,),), frame)
        frame = (("", "a", "b", ""), ((0, ALL),) * 3, (("", "a", "a", ""),))
        self.told([[at(0)], [at(0, 1)], []], ((ECHO,),), frame)

    def test_the_last_piece_does_not_matter(self):
        self.told([[at(0)]], ((ECHO,),), (("", "a"), ((0, ALL),), (("", "b"),)))

    def test_words_of_the_lot_alone(self):
        # By words of an odd number of d TWOS is at another place than by those of an even one.
        reader = ("ab", "d", ((((1, "d"), (0, "")), ""), (((0, "d"), (1, "")), "")))
        for words, found in ((["d"], [at(1)]), (["dd"], [at(0)]), (["", "d"], [at(0), at(1)]), (["", "dd"], [at(0)]),
                             (["d", "ddd", "ddddd"], [at(1)])):
            frame = (("", "", ""), ((0, lot_of_words("d", words)), (0, DS)), (("", "", ""),))
            self.told([[at(0)], found], ((reader,),), frame)

    def test_a_lot_with_ways_behind_which_no_word_ends(self):
        # Behind a b no word ends, though the ways go on.
        lot = ("ab", (((1, 2), False), ((None, 2), True), ((2, 2), False)))
        frame = (("", "", ""), ((0, lot), (0, ALL)), (("", "", ""), ("ccccc",)))
        self.told([[(STILL, (0, 0))], [(STILL, (0, 1))]], TWO, frame)

    def test_words_without_end(self):
        frame = (("", "", ""), ((0, ALL), (0, EMPTY)), (("", "", ""), ("cccc",)))
        self.told([[(STILL, (0, 0))], [(STILL, (0, far)) for far in range(5)]], TWO, frame)

    def test_each_standing_once_and_sorted(self):
        frame = (("", "", "", ""), ((0, ALL),) * 3, (("",) * 4, ("ccc",)))
        self.told([[(STILL, (0, 0))]] + [[(STILL, (0, far)) for far in range(4)]] * 2, TWO, frame)
        web = ((QUIET,), (ECHO, TWOS))
        frame = (("", "", ""), ((0, CS), (0, CS)), (("", "", ""), ("dd",)))
        states = [(((state,), (0, odd)), (0, far)) for state in range(3) for odd in range(2) for far in range(3)]
        # One text tells d for two of its signs: all places are come to but those with which more signs were read.
        found = come_to(web, frame)[1]
        self.assertEqual(found, slow_come_to(web, frame)[1])
        self.assertEqual(found, sorted(found))
        self.assertEqual(found, [here for here in states if here in found])
        self.assertGreater(len(found), 8)

    def test_the_next_piece_leads_just_from_some(self):
        frame = (("", "b", ""), ((0, ALL), (1, CS)), (("", "b"), ("ccc", "")))
        self.told([[(STILL, (0, 0))], [(STILL, (1, 3))]], TWO, frame)

    def test_told_lists_changed_and_told_again(self):
        told = come_to(TWO, BOTH)
        told[0].append(None)
        told[1].clear()
        told.pop()
        self.told([[(STILL, (1, 1))], [(STILL, (1, 2))]], TWO, BOTH)
        texts = ("",) * 4
        again = come_to(((ECHO,),), (texts, ((0, ALL),) * 3, (texts,)))
        again[0].append(None)
        self.assertEqual(again[1:], [[at(0)], [at(0)]])

    def test_against_a_slow_way(self):
        found = {}
        for web, frame, _, _ in some_frames(116, 200):
            told = come_to(web, frame)
            self.assertEqual(told, slow_come_to(web, frame))
            for i, part in enumerate(told):
                self.assertTrue(all(is_standing(web, frame, i, here) for here in part))
                found[min(len(part), 3)] = found.get(min(len(part), 3), 0) + 1
        self.assertGreater(min(found[many] for many in range(1, 4)), 10)

    def test_where_each_word_of_a_lot_leads(self):
        chance = random.Random(118)
        longer = 0
        for web, (pieces, holes, dues), words, _ in some_frames(119, 200):
            lots = [lot_of_words(web[k][-1][1], [word[:3], some_text(chance, web[k][-1][1], 2)])
                    for (k, _), word in zip(holes, words)]
            frame = (pieces, tuple([(k, lot) for (k, _), lot in zip(holes, lots)]), dues)
            told = come_to(web, frame)
            for i in range(1, len(holes)):
                leads = [piece_leads(web, frame, i, there) for here in told[i - 1]
                         for word in slow_words(lots[i - 1], 3) for there in behind(web, frame, i - 1, here, word)]
                self.assertEqual(told[i], sorted(set(leads) - {None}))
                longer += len(told[i]) > 1
        self.assertGreater(longer, 10)

    def test_no_places_are_looked_at_to_which_no_beginning_of_a_word_leads(self):
        # Where a d is told the two others count in rings of 36 states each, but no word has a d.
        lot = ("cd", (((1, 2), False), ((None, 2), True), ((2, 2), False)))
        teller = ("abcd", "cd", ((tuple([(0, sign) for sign in "cddd"]), ""),))
        web = ((teller,), rings("b", 2), rings("c", 2))
        frame = (("",) * 3, ((0, lot), (0, CDS)), (("",) * 3, ("",), ("",)))
        here = (((0,), (0, 0), (0, 0)), (0, 0, 0))
        with unittest.mock.patch("foeholes.standings.row_on", wraps=row_on) as reads:
            self.told([[here], [here]], web, frame)
            self.assertLess(reads.call_count, 200)
        frame = (("",) * 3, ((0, CDS), (0, CDS)), (("",) * 3, ("",), ("",)))
        self.assertEqual(len(come_to(web, frame)[1]), 36 * 36)

    def test_forty_standings_and_many_places_are_told_soon(self):
        ring = ("abcdefgh", "c", tuple([(((((k + 1) % 6, ""),) + ((k, ""),) * 7), "") for k in range(6)]))
        other = ("abcdefgh", "c", tuple([(((k, ""), ((k + 1) % 6, "")) + ((k, ""),) * 6, "") for k in range(6)]))
        web = ((one_state("abcdefgh", "c", "c"),), (ring,), (other,))
        frame = (("",) * 4, ((0, CS),) * 3, (("",) * 4, ("",), ("",)))
        found = [(((0,), (k,), (n,)), (0, 0, 0)) for k in range(6) for n in range(6)]
        self.told([[found[0]], found, found], web, frame)
        self.assertEqual(behind(web, frame, 0, found[0], "c" * 60), found)


def rings(sign, many):
    """A row of rings of six states: the sign turns the first one, and each that is round the next one; none is told."""
    row = []
    for k in range(many):
        last = k == many - 1
        states = [(tuple([((n + 1) % 6, sign if n == 5 and not last else "") if read == sign else (n, "")
                          for read in "abcd"]), "") for n in range(6)]
        row.append(("abcd", "abcd", tuple(states)))
    return tuple(row)


class TestIsStanding(unittest.TestCase):
    def told(self, kind, web, frame, i, *things):
        for thing in things:
            with self.subTest(web=web, frame=frame, i=i, thing=thing):
                ahead = copy.deepcopy((web, frame, thing))
                self.assertIs(is_standing(web, frame, i, thing), kind)
                self.assertEqual((web, frame, thing), ahead)

    def test_plain_standings(self):
        self.told(True, TWO, BOTH, 0, (STILL, (1, 1)))
        self.told(True, TWO, BOTH, 1, (STILL, (1, 2)))
        self.told(True, THREE, MANY, 2, AT_2)

    def test_the_edges_of_each_state(self):
        for k, row in enumerate(THREE):
            for n, reader in enumerate(row):
                for state in range(-2, 9):
                    states = [list(part) for part in AT_2[0]]
                    states[k][n] = state
                    thing = (tuple([tuple(part) for part in states]), AT_2[1])
                    self.told(0 <= state < len(reader[2]), THREE, MANY, 2, thing)
        states = AT_2[0][:2]
        self.told(False, THREE, MANY, 2, (states + ((10 ** 59,),), AT_2[1]), (states + ((-10 ** 59,),), AT_2[1]))

    def test_the_edges_of_each_number(self):
        for first in range(-2, 9):
            self.told(0 <= first <= 1, THREE, MANY, 2, (AT_2[0], (first, 3, 2)))
        for last in range(-2, 9):
            self.told(0 <= last <= 2, THREE, MANY, 2, (AT_2[0], (1, 3, last)))
        self.told(False, THREE, MANY, 2, (AT_2[0], (10 ** 59, 3, 2)), (AT_2[0], (1, 3, -10 ** 59)))

    def test_the_holes_listeners_exact_length(self):
        for far in range(-2, 9):
            self.told(far == 3, THREE, MANY, 2, (AT_2[0], (1, far, 2)))
            self.told(far == 1, THREE, MANY, 0, (AT_2[0], (1, far, 2)))
            self.told(far == 1, THREE, MANY, 1, (AT_2[0], (far, 2, 2)))

    def test_present_texts_are_those_of_the_hole(self):
        # At hole 0 the first texts are due, at hole 1 the second one of listener 1, at hole 2 that of listener 0, too.
        frame = (MANY[0], MANY[1], (("ddd", "d"), ("a", "baa", "aaaaa"), ("cd",)))
        for far in range(6):
            self.told(far <= 3, THREE, frame, 0, (AT_2[0], (far, 1, 0)))
            self.told(far <= 3, THREE, frame, 1, (AT_2[0], (3, far, 0)))
            self.told(far <= 1, THREE, frame, 2, (AT_2[0], (far, 3, 0)))
            self.told(far == 3, THREE, frame, 1, (AT_2[0], (far, 0, 0)))

    def test_numbers_are_no_truths(self):
        self.told(False, THREE, MANY, 2, (AT_2[0], (True, 3, 2)), (AT_2[0], (False, 3, 2)), (AT_2[0], (1, 3, True)))
        self.told(False, THREE, MANY, 0, (AT_2[0], (1, True, 2)))
        self.told(False, THREE, MANY, 2, (((0, True), (0,), (1,)), AT_2[1]), (((False, 1), (0,), (1,)), AT_2[1]))
        self.told(False, THREE, MANY, 2, (((0, 1), (False,), (1,)), AT_2[1]))
        web, frame = of_one(ECHO, ALL)
        self.told(False, web, frame, 0, at(False), at(0, False))

    def test_numbers_are_numbers(self):
        for wrong in (None, "0", "", (0,), [0], {}, ()):
            self.told(False, THREE, MANY, 2, (AT_2[0], (wrong, 3, 2)), (AT_2[0], (1, wrong, 2)))
            self.told(False, THREE, MANY, 2, (((0, wrong), (0,), (1,)), AT_2[1]), (((0, 1), (wrong,), (1,)), AT_2[1]))

    def test_lists_are_no_tuples(self):
        states, come = AT_2
        self.told(False, THREE, MANY, 2, [states, come], (list(states), come), (states, list(come)), list(AT_2))
        for k in range(3):
            self.told(False, THREE, MANY, 2, (states[:k] + (list(states[k]),) + states[k + 1:], come))

    def test_tuples_too_long_or_too_short(self):
        states, come = AT_2
        self.told(False, THREE, MANY, 2, (states,), (come,), AT_2 + (0,), AT_2 + AT_2, (come, states), (AT_2,))
        self.told(False, THREE, MANY, 2, (states[:2], come), (states + ((0,),), come), (states[1:], come), ((), come))
        self.told(False, THREE, MANY, 2, (states, come[:2]), (states, come + (0,)), (states, ()), (states, come[:1]))
        for part in ((0,), (0, 1, 0), (), ((0, 1),)):
            self.told(False, THREE, MANY, 2, ((part,) + states[1:], come))
        for part in ((0, 0), (), ((0,),)):
            self.told(False, THREE, MANY, 2, ((states[0], part, states[2]), come), (states[:2] + (part,), come))

    def test_things_of_other_kinds(self):
        web, frame = of_one(ECHO, ALL)
        self.assertTrue(is_standing(web, frame, 0, at(0)))
        self.told(False, THREE, MANY, 2, *OTHER_THINGS, nested(20))
        self.told(False, web, frame, 0, *OTHER_THINGS, nested(20))
        for thing in OTHER_THINGS:
            self.told(False, THREE, MANY, 2, (thing, AT_2[1]), (AT_2[0], thing), (thing, thing))
            self.told(False, web, frame, 0, (thing, (0,)))
            if thing != (0,):
                self.told(False, web, frame, 0, ((thing,), (0,)))
            if type(thing) is not int or thing != 0:
                self.told(False, web, frame, 0, (((0,),), (thing,)))

    def test_a_standing_that_is_not_come_to(self):
        web, frame = of_one(TURNS, CDS)
        self.assertEqual(come_to(web, frame), [[at(0)]])
        self.told(True, web, frame, 0, at(0), at(1))
        self.told(True, TWO, BOTH, 0, (STILL, (1, 0)), (STILL, (1, 1)), (STILL, (1, 2)))

    def test_a_standing_of_another_web(self):
        self.told(False, TWO, BOTH, 0, AT_2, at(0))
        self.told(False, THREE, MANY, 2, (STILL, (1, 1)), at(0))

    def test_by_chance(self):
        for web, frame, standing, i, _ in some_standings(117, 200):
            self.told(True, web, frame, i, standing)
