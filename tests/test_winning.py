"""Winning: who wins, which standings are good, and which shields hold."""

import copy
import unittest

from foeholes.frames import is_frame
from foeholes.rows import is_web
from foeholes.standings import come_to, hole_leads, piece_leads
from foeholes.winning import good, is_shield, writer_wins
from tests.frame_samples import (
    ALL, ECHO, EMPTY, MIXED, OTHER_THINGS, QUIET, TURNS, TWOS, lot_of_words, nested, slow_words,
)
from tests.play_samples import slow_good, some_plays
from tests.samples import all_texts, one_state

XS = ("x", (((0,), True),))
EMPTY_X = ("x", (((None,), True),))
EMPTY_CD = ("cd", (((None, None), True),))
# Tells x for each sign but lets only by: nothing, a text of a's of even length, and one b with a's behind it of odd
# length in all. So who begins a text has to know whether it will be even.
PARITY = ("ab", "x", (
    (((1, "x"), (3, "x")), ""),
    (((2, "x"), (5, "")), None),
    (((1, "x"), (5, "")), ""),
    (((4, "x"), (5, "")), ""),
    (((3, "x"), (5, "")), None),
    (((5, ""), (5, "")), None),
))
# Tells xx for a, and nothing for b: no odd word.
DOUBLES = ("ab", "x", ((((0, "xx"), (0, "")), ""),))
# Tells a for a, b for b; c tells a too, but with it no text is let by any more.
TRAP = ("abc", "ab", (
    (((0, "a"), (0, "b"), (1, "a")), ""),
    (((1, "a"), (1, "b"), (1, "a")), None),
))


def at(state, come=0):
    """A standing of a web of one reader."""
    return (((state,),), (come,))


def of_one(reader, lots, dues=None, pieces=None):
    """A web of one reader and a frame of it with a hole for each of the lots; no pieces where none are told."""
    web = ((reader,),)
    frame = (pieces or ("",) * (len(lots) + 1), tuple((0, lot) for lot in lots), (dues or ("",) * (len(lots) + 1),))
    assert is_web(web) and is_frame(web, frame)
    return web, frame


# The first listener's words are echoed, the second one hears a d for each two signs: aab, or bb and no more.
PAIRED = (((ECHO,), (TWOS,)), (("", "b"), ((0, lot_of_words("ab", ["bab", "b"])),), (("", "b"), ("dd",))))
SINGLE = (((ECHO,), (TWOS,)), (("", "b"), ((0, lot_of_words("ab", ["bab"])),), (("", "b"), ("dd",))))
# Two holes of TRAP: the first one's text may lead to state 1 as well, from where nothing is let by.
TRAPPED = of_one(TRAP, [ALL, ALL], ("", "b", ""), ("", "b", ""))
FOUR = of_one(TURNS, [EMPTY_CD, EMPTY_CD, EMPTY_CD, lot_of_words("cd", ["cd", "cddc"])],
              ("", "", "", "", "c"), ("", "", "", "", ""))


class TestWriterWins(unittest.TestCase):
    def told(self, won, web, frame):
        with self.subTest(web=web, frame=frame):
            self.assertTrue(is_web(web) and is_frame(web, frame))
            ahead = copy.deepcopy((web, frame))
            self.assertIs(writer_wins(web, frame), won)
            self.assertEqual((web, frame), ahead)

    def test_without_holes(self):
        self.told(True, *of_one(ECHO, []))
        self.told(True, *of_one(ECHO, [], ("ab",), ("ab",)))
        self.told(False, *of_one(ECHO, [], ("ab",), ("aa",)))
        self.told(False, *of_one(ECHO, [], ("ab",), ("aba",)))
        self.told(False, *of_one(ECHO, [], ("ab",), ("a",)))
        self.told(False, *of_one(TWOS, [], ("",), ("a",)))
        self.told(True, *of_one(TURNS, [], ("cdd",), ("b",)))
        self.told(False, *of_one(TURNS, [], ("cd",), ("b",)))

    def test_one_hole(self):
        self.told(True, *of_one(ECHO, [ALL]))
        self.told(True, *of_one(ECHO, [ALL], ("ab", "b"), ("ab", "b")))
        self.told(False, *of_one(ECHO, [ALL], ("ab", "b"), ("aa", "b")))
        self.told(False, *of_one(ECHO, [ALL], ("ab", "b"), ("ab", "a")))
        self.told(False, *of_one(ECHO, [ALL], ("ab", "b"), ("ab", "")))

    def test_a_word_that_no_text_makes_heard(self):
        self.told(False, *of_one(DOUBLES, [XS]))
        self.told(False, *of_one(DOUBLES, [lot_of_words("x", ["", "xx", "xxx"])]))
        self.told(True, *of_one(DOUBLES, [lot_of_words("x", ["", "xx", "xxxx"])]))
        self.told(True, *of_one(DOUBLES, [("x", (((1,), True), ((0,), False)))]))
        self.told(False, *of_one(DOUBLES, [("x", (((1,), True), ((2,), False), ((0,), False)))]))

    def test_a_long_word_that_no_text_makes_heard(self):
        # Each way of a ring of six tells an x, but the last one two: there is no text for six of them.
        ring = ("a", "x", tuple([((((k + 1) % 6, "xx" if k == 5 else "x"),), "") for k in range(6)]))
        self.told(False, *of_one(ring, [XS]))
        self.told(False, *of_one(ring, [("x", (((1,), False), ((2,), False), ((0,), True)))]))
        self.told(True, *of_one(ring, [lot_of_words("x", ["xxxxx", "x", ""])]))

    def test_a_text_that_leads_to_where_all_is_lost(self):
        self.told(True, *TRAPPED)
        self.told(True, *of_one(TRAP, [ALL]))
        self.told(False, *of_one(TRAP, [ALL, EMPTY], ("", "ba", ""), ("", "bc", "")))
        self.told(False, *of_one(TRAP, [ALL], ("a", ""), ("c", "")))

    def test_a_text_may_make_another_listener_part(self):
        self.told(False, *PAIRED)
        self.told(True, *SINGLE)
        self.told(False, SINGLE[0], (SINGLE[1][0], SINGLE[1][1], (("", "b"), ("d",))))

    def test_two_and_four_holes(self):
        self.told(True, *of_one(ECHO, [ALL, MIXED], ("a", "b", ""), ("a", "b", "")))
        self.told(False, *of_one(ECHO, [ALL, MIXED], ("a", "b", ""), ("a", "a", "")))
        self.told(True, *of_one(ECHO, [ALL, MIXED, ALL, EMPTY]))
        self.told(False, *of_one(ECHO, [ALL, MIXED, ALL, EMPTY], ("", "", "", "", "a")))
        self.told(False, *FOUR)
        self.told(False, *of_one(PARITY, [XS, XS]))
        self.told(False, *of_one(PARITY, [XS, XS, XS, XS]))
        self.told(True, *of_one(PARITY, [("x", (((1,), True), ((0,), False)))] * 4))

    def test_words_without_end_of_which_the_writer_knows_the_end_ahead(self):
        self.told(True, *of_one(PARITY, [XS]))
        self.told(True, *of_one(PARITY, [("x", (((1,), False), ((1,), True)))]))

    def test_signs_that_tell_nothing_and_lead_in_a_ring(self):
        web = ((QUIET,),)
        lot = ("c", (((None,), True),))
        self.told(True, web, (("a", "a"), ((0, lot),), (("", ""),)))
        self.told(False, web, (("a", "a"), ((0, ("c", (((0,), True),))),), (("", ""),)))

    def test_ways_of_the_lot_behind_which_no_word_ends(self):
        lot = ("abc", (((0, None, 1), True), ((1, 1, 1), False)))
        self.told(True, *of_one(one_state("ab", "abc", "a"), [lot]))
        self.told(False, *of_one(one_state("ab", "abc", "b"), [lot]))


class TestGood(unittest.TestCase):
    def told(self, lists, web, frame):
        with self.subTest(web=web, frame=frame):
            ahead = copy.deepcopy((web, frame))
            found = good(web, frame)
            self.assertEqual(found, lists)
            self.assertEqual((web, frame), ahead)
            for part in found:
                self.assertIsInstance(part, list)
                part.append("changed")
            found.append("changed")
            self.assertEqual(good(web, frame), lists)

    def test_a_list_for_each_hole(self):
        self.told([], *of_one(ECHO, []))
        self.told([], *of_one(ECHO, [], ("a",)))
        self.told([[at(0)]], *of_one(ECHO, [ALL]))
        self.told([[at(0, 1)], [at(0, 2)]], *of_one(ECHO, [ALL, MIXED], ("a", "ab", ""), ("a", "ab", "")))

    def test_the_good_ones_of_those_come_to(self):
        web, frame = TRAPPED
        self.assertEqual(come_to(web, frame), [[at(0)], [at(0, 1), at(1, 1)]])
        self.told([[at(0)], [at(0, 1)]], web, frame)

    def test_the_lists_are_sorted(self):
        reader = ("abc", "x", tuple([(((1, "x"), (3, "x"), (2, "x")), "")] * 4))
        web, frame = of_one(reader, [("x", (((1,), True), ((1,), True))), XS])
        self.assertEqual(come_to(web, frame)[1], [at(0), at(1), at(2), at(3)])
        self.told([[at(0)], [at(0), at(1), at(2), at(3)]], web, frame)

    def test_empty_lists(self):
        self.told([[]], *of_one(ECHO, [ALL], ("a", "")))
        self.told([[], []], *of_one(ECHO, [ALL, ALL], ("a", "", "")))
        self.told([[], []], *of_one(ECHO, [ALL, ALL], ("", "", "a")))
        self.told([[], [at(0)]], *of_one(DOUBLES, [XS, EMPTY_X]))
        self.told([[], []], *of_one(DOUBLES, [EMPTY_X, XS]))

    def test_it_is_not_good_where_the_foe_wins_though_it_is_good_at_a_later_hole(self):
        web, frame = of_one(PARITY, [XS, XS])
        self.assertEqual(come_to(web, frame), [[at(0)], [at(k) for k in range(6)]])
        self.told([[], [at(0)]], web, frame)

    def test_against_a_slow_look_at_all_short_words(self):
        won = 0
        for web, frame in some_plays(61, 500):
            self.assertTrue(is_web(web) and is_frame(web, frame))
            with self.subTest(web=web, frame=frame):
                found = good(web, frame)
                self.assertEqual(len(found), len(frame[1]))
                # Where a long word alone is missing, just a long look finds it.
                longest = 4
                while slow_good(web, frame, longest) != found and longest < 13:
                    longest += 4
                self.assertEqual(slow_good(web, frame, longest), found)
                lead = piece_leads(web, frame, 0, None)
                self.assertIs(writer_wins(web, frame), lead in found[0] if found else lead is True)
                won += writer_wins(web, frame)
        self.assertGreater(won, 50)
        self.assertLess(won, 450)

    def test_against_a_slow_look_at_all_short_texts(self):
        tried = 0
        for web, frame in some_plays(62, 250):
            if len(frame[1]) != 1:
                continue
            for here in come_to(web, frame)[0]:
                led = [hole_leads(web, frame, 0, here, text) for text in all_texts(web[0][0][0], 5)]
                heard = {part[0] for part in led if part and piece_leads(web, frame, 1, part[1])}
                if here in good(web, frame)[0]:
                    tried += 1
                    # So short a word needs so long a text at most, where all texts of up to five signs are looked at.
                    self.assertEqual(set(slow_words(frame[1][0][1], 1)) - heard, set())
        self.assertGreater(tried, 10)


class TestIsShield(unittest.TestCase):
    def told(self, holds, web, frame, thing):
        with self.subTest(web=web, frame=frame, thing=thing):
            ahead = copy.deepcopy(thing)
            self.assertIs(is_shield(web, frame, thing), holds)
            self.assertEqual(thing, ahead)

    def test_the_told_good_ones(self):
        for web, frame in [TRAPPED, SINGLE, of_one(ECHO, []), of_one(PARITY, [XS])]:
            self.told(True, web, frame, good(web, frame))
        for web, frame in [PAIRED, FOUR, of_one(DOUBLES, [XS, EMPTY_X]), of_one(PARITY, [XS, XS])]:
            self.told(False, web, frame, good(web, frame))

    def test_the_told_good_ones_hold_just_where_the_writer_wins(self):
        for web, frame in some_plays(63, 300):
            found = good(web, frame)
            self.told(writer_wins(web, frame), web, frame, found)
            lists = come_to(web, frame)
            self.told(writer_wins(web, frame) and lists == found, web, frame, lists)

    def test_all_come_to(self):
        web, frame = TRAPPED
        self.told(False, web, frame, come_to(web, frame))
        self.told(False, web, frame, [[at(0)], [at(1, 1)]])
        web, frame = of_one(ECHO, [ALL, MIXED])
        self.told(True, web, frame, come_to(web, frame))

    def test_none(self):
        web, frame = of_one(ECHO, [ALL, MIXED])
        self.told(False, web, frame, [])
        self.told(False, web, frame, [[], []])
        self.told(False, web, frame, [[], [at(0)]])
        self.told(False, web, frame, [[at(0)], []])

    def test_frames_without_holes(self):
        self.told(True, *of_one(ECHO, [], ("a",), ("a",)), [])
        self.told(False, *of_one(ECHO, [], ("a",), ("b",)), [])
        self.told(False, *of_one(ECHO, [], ("a",), ("a",)), [[]])
        self.told(False, *of_one(ECHO, [], ("a",), ("a",)), ())

    def test_a_standing_that_is_not_come_to(self):
        # From its third state the reader goes on as from the first one, but no text leads there.
        reader = ("a", "x", ((((0, "x"),), ""), (((0, "x"),), None), (((2, "x"),), "")))
        web, frame = of_one(reader, [XS])
        self.told(True, web, frame, [[at(0)]])
        self.told(True, web, frame, [[at(0), at(2)]])
        self.told(True, web, frame, [[at(2), at(0)]])
        self.told(False, web, frame, [[at(2)]])
        # With the empty word it leads to no end.
        self.told(False, web, frame, [[at(0), at(1)]])
        self.told(True, *of_one(reader, [("x", (((1,), False), ((1,), True)))]), [[at(0), at(1)]])

    def test_each_word_has_to_lead_into_the_next_list(self):
        web, frame = of_one(ECHO, [ALL, ALL], ("", "b", ""), ("", "b", ""))
        self.told(True, web, frame, [[at(0)], [at(0, 1)]])
        # By a text for the first hole the reader ends in state 1 for an odd word: no such one is listed.
        reader = ("a", "x", ((((1, "x"),), ""), (((0, "x"),), "")))
        web, frame = of_one(reader, [XS, XS])
        self.told(True, web, frame, [[at(0)], [at(0), at(1)]])
        self.told(True, web, frame, [[at(0)], [at(1), at(0)]])
        self.told(False, web, frame, [[at(0)], [at(0)]])
        self.told(False, web, frame, [[at(0), at(1)], [at(1)]])

    def test_a_standing_twice(self):
        web, frame = of_one(ECHO, [ALL, ALL])
        self.told(True, web, frame, [[at(0)], [at(0)]])
        self.told(False, web, frame, [[at(0), at(0)], [at(0)]])
        self.told(False, web, frame, [[at(0)], [at(0), at(0)]])

    def test_a_list_more_or_fewer(self):
        web, frame = of_one(ECHO, [ALL, ALL])
        self.told(False, web, frame, [[at(0)]])
        self.told(False, web, frame, [[at(0)], [at(0)], []])
        self.told(False, web, frame, [[at(0)], [at(0)], [at(0)]])

    def test_a_standing_of_another_hole(self):
        web, frame = of_one(ECHO, [ALL, ALL], ("a", "bb", ""), ("a", "bb", ""))
        self.told(True, web, frame, [[at(0, 1)], [at(0, 2)]])
        self.told(False, web, frame, [[at(0, 2)], [at(0, 2)]])
        self.told(False, web, frame, [[at(0, 1), at(0, 2)], [at(0, 2)]])
        self.told(False, web, frame, [[at(0, 1)], [at(0, 1), at(0, 2)]])

    def test_tuples_for_lists_and_lists_for_tuples(self):
        web, frame = of_one(ECHO, [ALL])
        self.told(True, web, frame, [[at(0)]])
        for thing in (([at(0)],), [(at(0),)], ((at(0),),), [[[((0,),), (0,)]]], [[([(0,)], (0,))]], [[(([0],), (0,))]],
                      [[(((0,),), [0])]], {0: [at(0)]}, [{at(0): True}], [at(0)], at(0)):
            self.told(False, web, frame, thing)

    def test_truths(self):
        web, frame = of_one(ECHO, [ALL], ("a", ""), ("a", ""))
        self.told(True, web, frame, [[at(0, 1)]])
        self.told(False, web, frame, [[at(0, True)]])
        self.told(False, web, frame, [[at(False, 1)]])
        for thing in (True, False, [True], [[True]], [[at(0, 1), True]]):
            self.told(False, web, frame, thing)

    def test_things_of_other_kinds(self):
        for web, frame in [of_one(ECHO, [ALL]), TRAPPED, of_one(ECHO, [], ("a",), ("b",))]:
            for thing in OTHER_THINGS + (nested(20), [nested(19)], [[nested(18)]], [[None]], [None], [["a"]]):
                self.told(False, web, frame, thing)

    def test_each_in_a_shield_that_holds_is_good(self):
        for web, frame in some_plays(64, 200):
            lists = come_to(web, frame)
            for skipped in range(sum([len(part) for part in lists])):
                # Each one left out in turn.
                thing = []
                at_all = 0
                for part in lists:
                    thing.append([here for k, here in enumerate(part, at_all) if k != skipped])
                    at_all += len(part)
                if is_shield(web, frame, thing):
                    self.assertTrue(writer_wins(web, frame))
                    for part, those in zip(thing, good(web, frame)):
                        self.assertLessEqual(set(part), set(those))


if __name__ == "__main__":
    unittest.main()
