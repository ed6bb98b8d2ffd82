"""Frames: what is one, what is due, the whole text, and what is wrong with it."""

import copy
import random
import unittest

from foeholes.frames import due_tellings, is_frame, whole, wrong_at
from foeholes.rows import is_web
from tests.frame_samples import (
    ALL, ECHO, EMPTY, LONG, MIXED, NONE, ONLY_A, OTHER_THINGS, QUIET, TURNS, TWOS, nested, slow_wrong_at, some_frames,
)
from tests.samples import PAIRS, SHUT, THREES, slow_row_telling

ONE = ((ECHO,),)
TWO = ((ECHO,), (ECHO, ONLY_A))
THREE = ((ECHO, TWOS), (ECHO,), (TURNS,))
CS = ("c", (((0,), True),))
DS = ("d", (((0,), True),))
CD = ("cd", (((0, 0), True),))

# Of TWO: a hole for each listener.
BOTH = (("a", "b", "a"), ((0, MIXED), (1, CS)), (("a", "baaa"), ("cc", "c")))
# Of TWO: three holes of the first listener, none of the second one.
THRICE = (("", "a", "b", ""), ((0, ALL), (0, ALL), (0, ALL)), (("", "a", "b", ""), ("ccc",)))
# Of THREE: the holes go to listeners 1, 0, 1, none to 2.
MANY = (
    ("a", "b", "", "aa"), ((1, ALL), (0, DS), (1, MIXED)),
    (("d", "d"), ("a", "baa", "aa"), ("cd",)),
)


def of_one(pieces=("", ""), holes=((0, ALL),), dues=(("", ""),)):
    """A frame of ONE, but for what is told."""
    return (pieces, holes, dues)


class TestIsFrame(unittest.TestCase):
    def told(self, kind, web, *things):
        for thing in things:
            with self.subTest(web=web, thing=thing):
                ahead = copy.deepcopy((web, thing))
                self.assertIs(is_frame(web, thing), kind)
                self.assertEqual((web, thing), ahead)

    def test_plain_frames(self):
        self.assertTrue(all(is_web(web) for web in (ONE, TWO, THREE)))
        self.told(True, ONE, of_one())
        self.told(True, TWO, BOTH, THRICE)
        self.told(True, THREE, MANY)

    def test_none_to_four_holes(self):
        for many in range(5):
            texts = ("",) * (many + 1)
            self.told(True, ONE, of_one(texts, ((0, ALL),) * many, (texts,)))
        for many in (5, 6, 20):
            texts = ("",) * (many + 1)
            self.told(False, ONE, of_one(texts, ((0, ALL),) * many, (texts,)))

    def test_pieces_of_at_most_twenty_signs(self):
        for k in range(2):
            self.told(True, ONE, of_one(("", "a" * 20)[::1 - 2 * k]))
            self.told(False, ONE, of_one(("", "a" * 21)[::1 - 2 * k]), of_one(("", "ab" * 30)[::1 - 2 * k]))

    def test_dues_of_at_most_twenty_signs(self):
        for k in range(2):
            self.told(True, ONE, of_one(dues=(("", "b" * 20)[::1 - 2 * k],)))
            self.told(False, ONE, of_one(dues=(("", "b" * 21)[::1 - 2 * k],)))
        self.told(True, TWO, (("", ""), ((0, ALL),), (("", ""), ("c" * 20,))))
        self.told(False, TWO, (("", ""), ((0, ALL),), (("", ""), ("c" * 21,))))

    def test_pieces_of_the_webs_signs(self):
        self.told(False, ONE, *[of_one(("a", wrong)) for wrong in ("c", "aac", "ca", " ", "A", "a b", "\n")])
        # These are signs that the rows tell, or that further readers read, and not the web's.
        self.told(False, TWO, (("c",), (), (("",), ("",))))
        self.told(False, ((PAIRS, THREES),), (("c",), (), (("",),)), (("x",), (), (("",),)))
        self.told(True, ((PAIRS, THREES),), (("ab",), (), (("xyz",),)))

    def test_dues_of_the_last_readers_tells(self):
        self.told(False, ONE, *[of_one(dues=(("", wrong),)) for wrong in ("c", "aac", " ", "A", "\n")])
        self.told(False, TWO, (("",), (), (("c",), ("",))), (("",), (), (("",), ("a",))), (("",), (), (("",), ("ca",))))
        self.told(False, ((PAIRS, THREES),), (("",), (), (("c",),)), (("",), (), (("a",),)))

    def test_pieces_are_texts(self):
        for wrong in (None, 0, True, ("a",), ["a"], {}, (), []):
            self.told(False, ONE, of_one((wrong, "")), of_one(("", wrong)))

    def test_dues_are_tuples_of_texts(self):
        for wrong in (None, 0, True, ("a",), ["a"], {}, (), []):
            self.told(False, ONE, of_one(dues=((wrong, ""),)), of_one(dues=(("", wrong),)))
            self.told(False, ONE, of_one(dues=(wrong,)))
        self.told(False, ONE, of_one(dues=("ab",)), of_one(dues=("",)), of_one(pieces="ab"))

    def test_one_piece_more_than_holes(self):
        self.told(False, ONE, of_one(()), of_one(("",)), of_one(("", "", "")), of_one(("", "", "", "")))
        self.told(False, ONE, ((), (), (("",),)), (("", ""), (), (("",),)))
        self.told(True, ONE, (("",), (), (("",),)))

    def test_a_tuple_of_dues_for_each_listener(self):
        self.told(False, ONE, of_one(dues=()), of_one(dues=(("", ""), ("",))), of_one(dues=(("", ""), ())))
        self.told(False, TWO, (("",), (), (("",),)), (("",), (), (("",), ("",), ("",))), (("",), (), ()))

    def test_one_due_more_than_holes_are_its_own(self):
        self.told(False, ONE, of_one(dues=(("",),)), of_one(dues=((),)), of_one(dues=(("", "", ""),)))
        pieces, holes, dues = MANY
        self.told(True, THREE, (pieces, holes, (("d", ""), ("a", "", ""), ("",))))
        for wrong in ((("",), ("", "", ""), ("",)), (("", "", ""), ("", "", ""), ("",)), (("", ""), ("", ""), ("",)),
                      (("", ""), ("", "", "", ""), ("",)), (("", ""), ("", "", ""), ()),
                      (("", ""), ("", "", ""), ("", "")), (("", "", ""), ("", ""), ("",))):
            self.told(False, THREE, (pieces, holes, wrong))

    def test_a_listeners_number(self):
        for wrong in (1, 2, -1, 10 ** 59, -10 ** 59, None, "0", (0,), [0]):
            self.told(False, ONE, of_one(holes=((wrong, ALL),)))
        self.told(False, TWO, (("", ""), ((2, CS),), (("",), ("",))), (("", ""), ((-1, CS),), (("",), ("", ""))))
        self.told(True, TWO, (("", ""), ((1, CS),), (("",), ("", ""))))

    def test_a_listeners_number_is_no_truth(self):
        self.told(False, ONE, of_one(holes=((False, ALL),)))
        self.told(False, TWO, (("", ""), ((True, CS),), (("",), ("", ""))))

    def test_a_lot_that_has_a_word(self):
        self.told(True, ONE, *[of_one(holes=((0, lot),)) for lot in (ALL, EMPTY, MIXED, LONG)])
        self.told(False, ONE, of_one(holes=((0, NONE),)))
        not_come_to = ("ab", (((0, None), False), ((None, None), True)))
        self.told(False, ONE, of_one(holes=((0, not_come_to),)))
        self.told(False, ONE, of_one(("",) * 3, ((0, ALL), (0, NONE)), (("",) * 3,)))

    def test_what_is_no_lot(self):
        for thing in OTHER_THINGS + (list(ALL), ALL[:1], ALL + (None,), ("ab", (((0, 1), True),)), ("ba", ALL[1])):
            self.told(False, ONE, of_one(holes=((0, thing),)))

    def test_lot_signs_that_the_listener_tells(self):
        abc = ("abc", (((0, 0, 0), True),))
        self.told(True, ONE, of_one(holes=((0, ("b", DS[1])),)), of_one(holes=((0, ("a", DS[1])),)))
        self.told(False, ONE, *[of_one(holes=((0, lot),)) for lot in (abc, CS, ("ac", ALL[1]), ("!a", ALL[1]))])
        # The listener's last reader tells c, its first one a and b.
        for listener, lot, kind in ((0, ALL, True), (0, CS, False), (1, CS, True), (1, ALL, False)):
            dues = [("",), ("",)]
            dues[listener] = ("", "")
            self.told(kind, TWO, (("", ""), ((listener, lot),), tuple(dues)))

    def test_signs_that_stand_in_no_word_count_too(self):
        self.told(False, ONE, of_one(holes=((0, ("abc", (((None, None, None), True),))),)))
        self.told(False, ONE, of_one(holes=((0, ("c", (((None,), True),))),)))

    def test_each_hole_is_looked_at(self):
        for k in range(4):
            holes = [(0, ALL)] * 4
            for wrong in ((1, ALL), (0, NONE), (0, CS), (0,), (0, ALL, ALL), (ALL, 0), None, [0, ALL], {0: ALL}, ALL):
                holes[k] = wrong
                self.told(False, ONE, of_one(("",) * 5, tuple(holes), (("",) * 5,)))

    def test_a_list_is_no_tuple(self):
        self.told(False, ONE, list(of_one()), of_one(["", ""]), of_one(holes=[(0, ALL)]), of_one(holes=([0, ALL],)))
        self.told(False, ONE, of_one(dues=[("", "")]), of_one(dues=(["", ""],)), [[""], [], [[""]]])
        self.told(False, ONE, ([""], (), (("",),)), (("",), [], (("",),)), (("",), (), [("",)]), (("",), (), ([""],)))

    def test_a_missing_or_a_surplus_part(self):
        self.told(False, ONE, of_one()[:2], of_one()[1:], of_one() + (None,), of_one()[::-1], of_one() * 2, (of_one(),))

    def test_things_of_other_kinds(self):
        for web in (ONE, THREE):
            self.told(False, web, *OTHER_THINGS, nested(20))
            for thing in OTHER_THINGS:
                self.told(False, web, (thing, thing, thing), ((thing,), (thing,), (thing,)), ((), (), (thing,)))
        for thing in OTHER_THINGS:
            self.told(False, ONE, of_one(dues=thing), of_one(holes=(thing,)))
            if thing != ("a", "b"):
                self.told(False, ONE, of_one(thing))
            if thing != ():
                self.told(False, ONE, of_one(holes=thing), (("",), thing, (("",),)))

    def test_a_frame_of_another_web(self):
        self.told(False, ONE, BOTH, THRICE, MANY)
        self.told(False, TWO, of_one(), MANY)
        self.told(False, THREE, of_one(), BOTH, THRICE)

    def test_by_chance(self):
        for web, frame, _, _ in some_frames(100, 60):
            self.told(True, web, frame)


class TestDueTellings(unittest.TestCase):
    def test_no_holes(self):
        self.assertEqual(due_tellings(ONE, (("ab",), (), (("ab",),)), ()), ("ab",))
        self.assertEqual(due_tellings(TWO, (("ab",), (), (("ba",), ("",))), ()), ("ba", ""))

    def test_one_listener_with_several_holes_and_one_with_none(self):
        self.assertEqual(due_tellings(TWO, THRICE, ("bb", "", "ab")), ("bbabab", "ccc"))
        self.assertEqual(due_tellings(TWO, THRICE, ("", "", "")), ("ab", "ccc"))
        self.assertEqual(due_tellings(TWO, THRICE, ("aa", "bb", "aa")), ("aaabbbaa", "ccc"))

    def test_each_word_goes_to_its_listener(self):
        self.assertEqual(due_tellings(TWO, BOTH, ("b", "c")), ("abbaaa", "cccc"))
        self.assertEqual(due_tellings(THREE, MANY, ("bb", "dd", "a")), ("dddd", "abbbaaaaa", "cd"))

    def test_the_first_text_goes_ahead_of_the_first_word_and_so_on(self):
        frame = (("", "", ""), ((0, ALL), (0, ALL)), (("a", "aa", "aaa"),))
        self.assertEqual(due_tellings(ONE, frame, ("b", "bb")), ("ab" + "aabb" + "aaa",))

    def test_words_may_be_any(self):
        self.assertEqual(due_tellings(TWO, BOTH, ("x y", "a" * 60)), ("ax ybaaa", "cc" + "a" * 60 + "c"))

    def test_a_tuple_and_nothing_is_changed(self):
        frame = copy.deepcopy(MANY)
        told = due_tellings(THREE, frame, ("bb", "dd", "a"))
        self.assertIsInstance(told, tuple)
        self.assertEqual(frame, MANY)


class TestWhole(unittest.TestCase):
    def test_no_holes(self):
        self.assertEqual(whole((("ab",), (), (("ab",),)), ()), "ab")
        self.assertEqual(whole((("",), (), (("ab",),)), ()), "")

    def test_pieces_and_texts_by_turns(self):
        self.assertEqual(whole(BOTH, ("bb", "")), "a" + "bb" + "b" + "" + "a")
        self.assertEqual(whole(MANY, ("ba", "bb", "a" * 200)), "a" + "ba" + "b" + "bb" + "" + "a" * 200 + "aa")
        self.assertEqual(whole(THRICE, ("bbb", "aaaa", "bbbbb")), "bbb" + "a" + "aaaa" + "b" + "bbbbb")
        self.assertEqual(whole(THRICE, ("", "", "")), "ab")

    def test_four_holes(self):
        texts = ("",) * 5
        frame = (("a", "aa", "aaa", "aaaa", "aaaaa"), ((0, ALL),) * 4, (texts,))
        self.assertEqual(whole(frame, ("b", "bb", "bbb", "bbbb")), "abaabbaaabbbaaaabbbbaaaaa")


class TestWrongAt(unittest.TestCase):
    def told(self, wrong, web, frame, words, texts):
        with self.subTest(web=web, frame=frame, words=words, texts=texts):
            self.assertTrue(is_frame(web, frame))
            ahead = copy.deepcopy((web, frame))
            self.assertEqual(wrong_at(web, frame, words, texts), wrong)
            self.assertEqual(slow_wrong_at(web, frame, words, texts), wrong)
            self.assertEqual((web, frame), ahead)

    def test_it_is_well(self):
        self.told(None, TWO, BOTH, ("a", "cc"), ("a", "aa"))
        self.told(None, TWO, BOTH, ("ba", "cc"), ("ba", "aa"))
        self.told(None, ONE, of_one(("a", "b"), dues=(("a", "b"),)), ("",), ("",))
        self.told(None, ONE, of_one(("a", "b"), dues=(("a", "b"),)), ("ba" * 30,), ("ba" * 30,))
        self.told(None, TWO, (("", "a", "b", "ab"), THRICE[1], (("", "a", "b", "ab"), ("cccc",))),
                  ("a", "b", "a"), ("a", "b", "a"))

    def test_no_holes(self):
        self.told(None, ONE, (("ab",), (), (("ab",),)), (), ())
        self.told(None, ONE, (("",), (), (("",),)), (), ())
        self.told(None, ((PAIRS, THREES),), (("bab",), (), (("zzx",),)), (), ())
        self.told(("heard", 0, 1), ONE, (("ab",), (), (("aa",),)), (), ())
        self.told(("shut", 0), ((PAIRS, THREES),), (("b",), (), (("x",),)), (), ())

    def test_the_first_word_that_is_not_of_its_lot(self):
        self.told(("word", 0), TWO, BOTH, ("aa", "cc"), ("aa", "aa"))
        self.told(("word", 0), TWO, BOTH, ("", "cc"), ("", "aa"))
        self.told(("word", 1), TWO, BOTH, ("a", "ca"), ("a", "aa"))
        self.told(("word", 0), TWO, BOTH, ("ab", "b"), ("a", "aa"))
        # Signs that the lot does not have, or that are no signs at all.
        self.told(("word", 0), TWO, BOTH, ("c", "cc"), ("a", "aa"))
        self.told(("word", 1), TWO, BOTH, ("a", " "), ("a", "aa"))

    def test_each_edge(self):
        pieces, holes, _ = BOTH
        self.told(("edge", 0, 0), TWO, (pieces, holes, (("b", "baaa"), ("cc", "c"))), ("a", "cc"), ("a", "aa"))
        self.told(("edge", 0, 1), TWO, BOTH, ("a", "cc"), ("b", "aa"))
        self.told(("edge", 0, 1), TWO, BOTH, ("a", "cc"), ("", "aa"))
        self.told(("edge", 0, 1), TWO, BOTH, ("a", "cc"), ("aa", "aa"))
        self.told(("edge", 1, 0), TWO, BOTH, ("b", "cc"), ("b", "aa"))
        self.told(("edge", 1, 1), TWO, BOTH, ("a", "cc"), ("a", "a"))
        self.told(("edge", 1, 1), TWO, BOTH, ("a", "c"), ("a", "aa"))
        self.told(("edge", 1, 1), TWO, BOTH, ("a", ""), ("a", "a"))

    def test_what_is_told_ahead_of_an_edge_is_just_what_is_due(self):
        # Too little and too much ahead of the hole, though the whole would be heard as it is due.
        for pieces, texts in ((("", ""), ("aab",)), (("aa", ""), ("b",))):
            self.told(("edge", 0, 0), ONE, of_one(pieces, dues=(("a", ""),)), ("ab",), texts)
        for pieces, texts in ((("a", "b"), ("a",)), (("a", ""), ("abb",))):
            self.told(("edge", 0, 1), ONE, of_one(pieces, dues=(("a", "b"),)), ("ab",), texts)

    def test_an_edge_counts_all_that_was_told_and_no_ends(self):
        # What an earlier word has too much the next piece may not have too little.
        frame = (("", "a", ""), ((0, ALL), (0, ALL)), (("", "ab", ""),))
        self.told(("edge", 0, 1), ONE, frame, ("a", ""), ("aa", ""))
        self.told(("edge", 1, 0), ONE, frame, ("a", ""), ("a", "b"))
        # THREES tells at its end what it counted, and not ahead of it.
        web = ((PAIRS, THREES),)
        pieces, holes = ("aa", "a"), ((0, ("z", (((0,), True),))),)
        self.told(None, web, (pieces, holes, (("", "zx"),)), ("",), ("",))
        self.told(("edge", 0, 0), web, (pieces, holes, (("y", "zx"),)), ("",), ("",))

    def test_the_first_listener_that_does_not_let_it_by(self):
        shut = ("ab", "c", SHUT[2])
        self.told(("shut", 0), ((shut,), (shut,)), (("ab",), (), (("c",), ("c",))), (), ())
        self.told(("shut", 1), ((ECHO,), (TWOS,), (TWOS,)), (("aab",), (), (("aab",), ("d",), ("d",))), (), ())
        self.told(("shut", 2), ((ECHO,), (ECHO,), (ECHO, TWOS)), (("b",), (), (("b",), ("b",), ("",))), (), ())

    def test_the_first_listener_whose_telling_is_not_due(self):
        self.told(("heard", 0, 3), TWO, BOTH, ("a", "cc"), ("a", "baa"))
        self.told(("heard", 1, 2), TWO, (("aab",), (), (("aab",), ("ccc",))), (), ())
        self.told(("heard", 0, 1), TWO, (("ab",), (), (("aa",), ("cc",))), (), ())
        self.told(("heard", 1, 0), THREE, (("aa",), (), (("d",), ("b",), ("d",))), (), ())

    def test_how_many_signs_are_alike(self):
        for text, due, at in (("ab", "bb", 0), ("ab", "aa", 1), ("abab", "abbb", 2), ("a" * 20, "a" * 19 + "b", 19),
                              ("", "a", 0), ("a", "", 0), ("ab", "a", 1), ("a", "ab", 1), ("a" * 20, "a" * 7, 7),
                              ("aba", "abaaa", 3), ("bab", "aba", 0)):
            self.told(("heard", 0, at), ONE, ((text,), (), ((due,),)), (), ())

    def test_ends_are_heard(self):
        web = ((TURNS,),)
        self.told(None, web, (("aa",), (), (("c",),)), (), ())
        self.told(None, web, (("bb",), (), (("cddcc",),)), (), ())
        self.told(("heard", 0, 4), web, (("bb",), (), (("cddc",),)), (), ())
        self.told(("heard", 0, 2), web, (("b",), (), (("cdc",),)), (), ())

    def test_a_word_goes_ahead_of_all_edges(self):
        pieces, holes, _ = BOTH
        frame = (pieces, holes, (("b", "baaa"), ("c", "c")))
        self.told(("edge", 0, 0), TWO, frame, ("a", "c"), ("bb", "aa"))
        self.told(("word", 1), TWO, frame, ("a", "a"), ("bb", "aa"))

    def test_side_0_goes_ahead_of_side_1_and_a_hole_ahead_of_the_next_one(self):
        frame = (("a", "b", "a"), BOTH[1], (("b", "baaa"), ("", "c")))
        self.told(("edge", 0, 0), TWO, frame, ("b", "c"), ("a", "b"))
        frame = (("a", "b", "a"), BOTH[1], (("a", "baaa"), ("", "c")))
        self.told(("edge", 0, 1), TWO, frame, ("b", "c"), ("a", "b"))
        self.told(("edge", 1, 0), TWO, frame, ("b", "c"), ("b", "b"))
        frame = (("a", "b", "a"), BOTH[1], (("a", "baaa"), ("c", "c")))
        self.told(("edge", 1, 1), TWO, frame, ("b", "c"), ("b", "b"))

    def test_an_edge_goes_ahead_of_what_is_shut_and_that_ahead_of_what_is_heard(self):
        web = ((ECHO,), (TWOS,))
        frame = (("a", "a"), ((0, ALL),), (("a", "b"), ("dd",)))
        self.told(("edge", 0, 1), web, frame, ("b",), ("a",))
        self.told(("shut", 1), web, frame, ("b",), ("b",))
        self.told(("heard", 0, 3), web, frame, ("bb",), ("bb",))
        frame = (("a", "b"), ((0, ALL),), (("a", "b"), ("dd",)))
        self.told(("shut", 1), web, frame, ("b",), ("b",))
        self.told(("heard", 1, 2), web, frame, ("bbbb",), ("bbbb",))
        self.told(None, web, frame, ("bb",), ("bb",))

    def test_a_last_listener_that_is_shut_goes_ahead_of_a_first_one_that_tells_what_is_not_due(self):
        web = ((ECHO,), (ECHO,), (TWOS,))
        self.told(("shut", 2), web, (("aab",), (), (("b",), ("",), ("d",))), (), ())
        self.told(("heard", 0, 0), web, (("aa",), (), (("b",), ("",), ("",))), (), ())
        self.told(("heard", 1, 0), web, (("aa",), (), (("aa",), ("",), ("",))), (), ())
        self.told(("heard", 2, 0), web, (("aa",), (), (("aa",), ("aa",), ("",))), (), ())

    def test_long_words_and_texts(self):
        self.told(None, ONE, of_one(), ("ab" * 30,), ("ab" * 30,))
        self.told(("edge", 0, 1), ONE, of_one(), ("ab" * 30,), ("ab" * 100,))
        self.told(None, ((QUIET,),), (("", ""), ((0, CS),), (("", ""),)), ("",), ("ab" * 100,))

    def test_what_is_made_to_be_well_by_chance(self):
        for web, frame, words, texts in some_frames(101, 200):
            self.told(None, web, frame, words, texts)

    def test_against_a_slow_way(self):
        chance = random.Random(102)
        found = {}
        for web, frame, words, texts in some_frames(103, 1500):
            frame, words, texts = changed(chance, frame, words, texts)
            told = wrong_at(web, frame, words, texts)
            self.assertEqual(told, slow_wrong_at(web, frame, words, texts))
            kind = told and told[0]
            found[kind] = found.get(kind, 0) + 1
            if told is None:
                self.assertEqual(tuple(slow_row_telling(row, whole(frame, texts)) for row in web),
                                 due_tellings(web, frame, words))
        self.assertEqual(set(found), {None, "word", "edge", "shut", "heard"})
        self.assertGreater(min(found.values()), 20)


def changed(chance, frame, words, texts):
    """A frame, words and texts, some of them changed a little."""
    pieces, holes, dues = frame
    if holes and chance.randrange(3) == 0:
        k = chance.randrange(len(holes))
        texts = texts[:k] + (texts[k] + chance.choice("ab"),) + texts[k + 1:]
    if holes and chance.randrange(5) == 0:
        k = chance.randrange(len(holes))
        words = words[:k] + (words[k] + chance.choice("cdefx"),) + words[k + 1:]
    if chance.randrange(2):
        pieces = pieces[:-1] + (pieces[-1] + chance.choice("ab"),)
    if chance.randrange(3) == 0:
        k = chance.randrange(len(dues))
        at = chance.randrange(len(dues[k]))
        own = chance.choice([dues[k][at][1:], dues[k][at] + "c"])
        dues = dues[:k] + (dues[k][:at] + (own,) + dues[k][at + 1:],) + dues[k + 1:]
    return (pieces, holes, dues), words, texts
