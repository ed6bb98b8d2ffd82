"""Makers: what they are, what they write, and which word they write wrongly."""

import copy
import random
import unittest

from foeholes.errors import HoleError, NoWay
from foeholes.frames import is_frame
from foeholes.guides import guide
from foeholes.lots import is_lot
from foeholes.makers import is_maker, written, wrong_word
from foeholes.rows import is_web
from foeholes.standings import come_to, hole_leads, is_standing, piece_leads
from foeholes.winning import good
from tests.frame_samples import ALL, ECHO, EMPTY, MIXED, OTHER_THINGS, QUIET, TWOS, lot_of_words, nested, slow_words
from tests.play_samples import some_plays
from tests.samples import one_state
from tests.test_winning import DOUBLES, PAIRED, PARITY, SINGLE, TRAP, TRAPPED, XS, at, of_one

AS = ("a", (((0,), True),))
# Writes just what it is told to.
SAME = ("", ((((0, "a"), (0, "b")), ""),))
SAME_AS = ("", ((((0, "a"),), ""),))


def in_a_ring(many, texts, ends):
    """A maker of words of one sign whose states stand in a ring."""
    return ("", tuple([((((k + 1) % many, texts[k]),), ends[k]) for k in range(many)]))


def every(many):
    """The lot of a's as many as this, twice as many and so on, and of none."""
    return ("a", tuple([(((k + 1) % many,), k == 0) for k in range(many)]))


def slow_wrong_word(web, frame, i, standing, maker, longest):
    """The least word up to a length that is written wrongly: each one is written and read."""
    goods = good(web, frame) + [[True]]
    for word in slow_words(frame[1][i][1], longest):
        text, state = maker[0], 0
        for sign in word:
            state, more = maker[1][state][0][frame[1][i][1][0].find(sign)]
            text += more
        led = hole_leads(web, frame, i, standing, text + maker[1][state][1])
        if led is None or led[0] != word or piece_leads(web, frame, i + 1, led[1]) not in goods[i + 1]:
            return word
    return None


def maker_of(table, most=4):
    """The maker that writes by a table whose rows have one place each; None where it needs more."""
    if len(table) > 6 or any([len(places) > 1 for _, places, _, _ in table]):
        return None
    states = tuple([(tuple([(0, "") if way is None else (way[0], way[1][0][1]) for way in ways]),
                     "" if end is None else end[1]) for _, _, ways, end in table])
    texts = [text for ways, end in states for text in [end] + [part for _, part in ways]]
    return ("", states) if max([len(text) for text in texts]) <= most else None


class TestIsMaker(unittest.TestCase):
    def told(self, due, thing, web=None, frame=None, i=0):
        if web is None:
            web, frame = of_one(ECHO, [ALL])
        with self.subTest(thing=thing, i=i):
            ahead = copy.deepcopy((web, frame, thing))
            self.assertIs(is_maker(web, frame, i, thing), due)
            self.assertEqual((web, frame, thing), ahead)

    def test_one_and_six_states(self):
        self.told(True, SAME)
        state = (((5, "a"), (0, "bb")), "abab")
        self.told(True, ("abab", (state,) * 6))
        self.told(False, ("abab", (state,) * 5))
        self.told(False, ("abab", (state,) * 7))
        self.told(False, ("", ()))
        self.told(True, ("", ((((0, ""), (0, "")), ""),) * 6))
        self.told(False, ("", ((((0, ""), (0, "")), ""),) * 7))

    def test_texts_of_four_and_of_five_signs(self):
        for text, due in (("abba", True), ("abbab", False), ("c", False), ("a ", False), ("A", False), ("", True)):
            self.told(due, (text, ((((0, "a"), (0, "b")), ""),)))
            self.told(due, ("", ((((0, text), (0, "b")), ""),)))
            self.told(due, ("", ((((0, "a"), (0, text)), ""),)))
            self.told(due, ("", ((((0, "a"), (0, "b")), text),)))
            self.told(due, ("", (SAME[1][0], (((0, "a"), (1, "b")), text))))

    def test_texts_that_are_none(self):
        for text in (None, 0, True, ("a",), ["a"], {"a": 1}, nested(20)):
            self.told(False, (text, ((((0, "a"), (0, "b")), ""),)))
            self.told(False, ("", ((((0, text), (0, "b")), ""),)))
            self.told(False, ("", ((((0, "a"), (0, "b")), text),)))

    def test_next_states(self):
        for after, due in ((0, True), (1, True), (2, False), (-1, False), (True, False), (False, False), (None, False),
                           ("0", False), ((0,), False), (10 ** 59, False), (nested(20), False)):
            state = (((0, "a"), (after, "b")), "")
            self.told(due, ("", (state, state)))
            self.told(due, ("", (SAME[1][0], state)))

    def test_a_way_for_each_sign_of_the_lot(self):
        for many in range(4):
            self.told(many == 2, ("", ((((0, "a"),) * many, ""),)))
        web, frame = of_one(ECHO, [ALL, AS])
        self.told(True, SAME, web, frame, 0)
        self.told(False, SAME, web, frame, 1)
        self.told(False, SAME_AS, web, frame, 0)
        self.told(True, SAME_AS, web, frame, 1)

    def test_the_texts_are_of_the_webs_signs_and_the_ways_of_the_lots(self):
        web, frame = of_one(one_state("ab", "xyz", "x"), [("xyz", (((0, 0, 0), True),))])
        self.told(True, ("ba", ((((0, "a"), (0, "b"), (0, "")), "b"),)), web, frame)
        self.told(False, ("ba", ((((0, "x"), (0, "b"), (0, "")), "b"),)), web, frame)
        self.told(False, ("ba", ((((0, "a"), (0, "b")), "b"),)), web, frame)

    def test_the_hole(self):
        web, frame = of_one(ECHO, [ALL, ALL])
        for i in (0, 1):
            self.told(True, SAME, web, frame, i)
        for i in (2, 3, -1, -2, 10 ** 59, True, False, None, "0", (), []):
            self.told(False, SAME, web, frame, i)
        web, frame = of_one(ECHO, [])
        self.told(False, SAME, web, frame, 0)

    def test_frames_beyond_the_bound(self):
        # In each row three readers of six states each that go on by all signs each in its own way.
        turns = tuple([("ab", "ab", tuple([((((k + 1) % 6, "a"), ((k + far) % 6, "b")), "") for k in range(6)]))
                       for far in (0, 2, 3)])
        web = (turns, turns[::-1], turns)
        frame = (("a" * 20,) * 5, ((0, ALL), (1, ALL), (2, ALL), (0, ALL)), (("a" * 20,) * 3, ("",) * 2, ("b",) * 2))
        self.assertTrue(is_web(web) and is_frame(web, frame))
        for i in range(4):
            self.told(True, SAME, web, frame, i)
        self.told(False, SAME, web, frame, 4)
        self.told(False, SAME_AS, web, frame, 0)

    def test_lists_for_tuples(self):
        self.told(False, list(SAME))
        self.told(False, ("", list(SAME[1])))
        self.told(False, ("", (list(SAME[1][0]),)))
        self.told(False, ("", (([(0, "a"), (0, "b")], ""),)))
        self.told(False, ("", ((([0, "a"], (0, "b")), ""),)))

    def test_things_of_other_kinds(self):
        for thing in OTHER_THINGS + (nested(20), ("",), ("", SAME[1], ""), ("", (None,)), ("", ((),)),
                                     ("", (("", ""),)),
                                     ("", (((None, None), ""),)), ("", ((((0,), (0,)), ""),)),
                                     ("", ((((0, "a", "b"), (0, "b")), ""),)), ("", ((((0, "a"), (0, "b")),),)),
                                     ("", ((((0, "a"), (0, "b")), "", ""),))):
            self.told(False, thing)


class TestWritten(unittest.TestCase):
    # For each a aa, for each b nothing and then bbbb; at the end where it stands.
    MAKER = ("ba", ((((0, "aa"), (1, "")), "a"), (((1, ""), (0, "bbbb")), "bb")))

    def told(self, text, maker, lot, word):
        with self.subTest(maker=maker, lot=lot, word=word):
            self.assertTrue(is_lot(lot))
            self.assertEqual(written(maker, lot, word), text)

    def test_the_empty_word(self):
        self.told("baa", self.MAKER, ALL, "")
        self.told("", SAME, ALL, "")
        self.told("baa", self.MAKER, MIXED, "")

    def test_words_of_each_sign(self):
        self.told("baaaa", self.MAKER, ALL, "a")
        self.told("babb", self.MAKER, ALL, "b")
        self.told("babbbba", self.MAKER, ALL, "bb")
        self.told("ba" + "aa" + "" + "" + "bbbb" + "aa" + "a", self.MAKER, ALL, "ababa")
        self.told("ba" + "aa" * 60 + "a", self.MAKER, ALL, "a" * 60)

    def test_words_of_the_lot_and_not(self):
        for word in ("a", "b", "ba", "ab", "aa", ""):
            self.told(word, SAME, MIXED, word)
            self.told(word, SAME, EMPTY, word)

    def test_the_signs_are_the_lots(self):
        maker = ("", ((((0, "a"), (0, "b"), (0, "ab")), ""),))
        lot = ("xyz", (((None, None, None), True),))
        self.told("abba", maker, lot, "zyx")


class TestWrongWord(unittest.TestCase):
    def told(self, due, web, frame, i, standing, maker):
        with self.subTest(web=web, frame=frame, i=i, standing=standing, maker=maker):
            self.assertTrue(is_maker(web, frame, i, maker))
            ahead = copy.deepcopy((web, frame, standing, maker))
            self.assertEqual(wrong_word(web, frame, i, standing, maker), due)
            self.assertEqual((web, frame, standing, maker), ahead)
            if due is None or len(due) < 7:
                self.assertEqual(slow_wrong_word(web, frame, i, standing, maker, 6), due)

    def refused(self, web, frame, i, standing, maker):
        with self.subTest(web=web, frame=frame, i=i, standing=standing):
            ahead = copy.deepcopy(standing)
            with self.assertRaises(HoleError) as caught:
                wrong_word(web, frame, i, standing, maker)
            self.assertIs(type(caught.exception), NoWay)
            self.assertEqual(standing, ahead)

    def test_right_for_all_words(self):
        self.told(None, *of_one(ECHO, [ALL]), 0, at(0), SAME)
        self.told(None, *of_one(ECHO, [MIXED]), 0, at(0), SAME)
        self.told(None, *of_one(ECHO, [ALL, MIXED], ("a", "b", ""), ("a", "b", "")), 1, at(0, 1), SAME)
        web, frame = of_one(DOUBLES, [("x", (((1,), True), ((0,), False)))])
        self.told(None, web, frame, 0, at(0), ("", ((((1, ""),), ""), (((0, "a"),), "b"))))
        self.told(None, web, frame, 0, at(0), ("b", ((((1, "abb"),), "bbbb"), (((0, ""),), ""))))
        web, frame = SINGLE
        self.told(None, web, frame, 0, good(web, frame)[0][0], SAME)

    def test_the_empty_word(self):
        self.told("", *of_one(ECHO, [ALL]), 0, at(0), ("a", SAME[1]))
        self.told("", *of_one(ECHO, [ALL]), 0, at(0), ("", ((((0, "a"), (0, "b")), "b"),)))
        self.told("", *of_one(ECHO, [EMPTY]), 0, at(0), ("", ((((0, "a"), (0, "b")), "b"),)))
        self.told(None, *of_one(ECHO, [EMPTY]), 0, at(0), ("", ((((0, "b"), (0, "a")), ""),)))
        # What is told ahead, and taken back by no sign.
        self.told("", *of_one(ECHO, [ALL]), 0, at(0), ("a", ((((0, "a"), (0, "b")), ""),)))

    def test_the_least_of_two_wrong_words(self):
        # b and ab are wrong, and aa too.
        self.told("b", *of_one(ECHO, [ALL]), 0, at(0), ("", ((((1, "a"), (0, "")), ""), (((0, ""), (0, "")), ""))))
        # ab and ba are wrong: ab is sorted ahead.
        lot = lot_of_words("ab", ["ba", "ab"])
        self.told("ab", *of_one(ECHO, [lot]), 0, at(0), ("", ((((0, "b"), (0, "a")), ""),)))
        lot = lot_of_words("ab", ["ab", "ba", "bb"])
        self.told("ba", *of_one(ECHO, [lot]), 0, at(0),
                  ("", ((((1, "a"), (1, "a")), ""), (((1, "a"), (1, "b")), ""))))

    def test_words_that_are_none_do_nothing(self):
        # It writes bb wrongly, but this is none of the lot; so it does a beginning of words of the lot.
        maker = ("", ((((0, "a"), (1, "b")), ""), (((2, "a"), (1, "")), ""), (((2, "a"), (1, "b")), "")))
        self.told(None, *of_one(ECHO, [MIXED]), 0, at(0), maker)
        self.told("bb", *of_one(ECHO, [ALL]), 0, at(0), maker)
        lot = ("ab", (((1, 1), False), ((None, None), True)))
        self.told(None, *of_one(ECHO, [lot]), 0, at(0), ("", ((((1, ""), (2, "")), ""), (((1, ""), (1, "")), "a"),
                                                              (((1, ""), (1, "")), "b"))))
        # No word ends behind a b.
        lot = ("ab", (((0, 1), True), ((1, 1), False)))
        self.told(None, *of_one(ECHO, [lot]), 0, at(0), ("", ((((0, "a"), (0, "")), ""),)))

    def test_right_for_all_short_words_and_wrong_for_a_long_one(self):
        for wrong, word in ((1, 25), (3, 15), (0, 0), (2, 20)):
            maker = in_a_ring(6, "a" * 6, ["b" if k == wrong else "" for k in range(6)])
            self.told("a" * word, *of_one(ECHO, [every(5)]), 0, at(0), maker)
        self.told(None, *of_one(ECHO, [every(4)]), 0, at(0), in_a_ring(6, "a" * 6, ["", "b", "", "b", "", "b"]))
        self.told("a" * 6, *of_one(ECHO, [AS]), 0, at(0), in_a_ring(6, ["a"] * 5 + ["aa"], [""] * 6))
        self.told("a" * 10, *of_one(ECHO, [every(5)]), 0, at(0), in_a_ring(6, ["a"] * 5 + ["aa"], [""] * 6))
        # By the reader's states, too: where a multiple of five leads it to its third one no text is let by.
        reader = ("a", "a", tuple([((((k + 1) % 6, "a"),), None if k == 2 else "") for k in range(6)]))
        web, frame = of_one(reader, [every(5)])
        self.assertEqual(good(web, frame), [[]])
        self.refused(web, frame, 0, at(0), SAME_AS)
        reader = ("ab", "a", tuple([((((k + 1) % 6, "a"), (0, "a")), None if k == 2 else "") for k in range(6)]))
        self.told("a" * 20, *of_one(reader, [every(5)]), 0, at(0), SAME_AS)

    def test_what_is_owed_and_what_is_told_ahead(self):
        some_as = ("a", (((1,), False), ((1,), True)))
        late = ("", ((((1, ""),), ""), (((1, "a"),), "a")))
        self.told(None, *of_one(ECHO, [some_as]), 0, at(0), late)
        soon = ("a", ((((1, ""),), ""), (((1, "a"),), "")))
        self.told(None, *of_one(ECHO, [some_as]), 0, at(0), soon)
        self.told("", *of_one(ECHO, [AS]), 0, at(0), soon)
        # Four signs are owed, then five are told at once.
        owing = ("", tuple([(((k + 1, ""),), "a" * k) for k in range(5)]) + ((((5, "a"),), "aaaa"),))
        self.told("aaaaa", *of_one(ECHO, [AS]), 0, at(0), owing)
        # It owes ever more.
        self.told("a", *of_one(ECHO, [AS]), 0, at(0), ("", ((((0, ""),), ""),)))
        self.told("a", *of_one(ECHO, [AS]), 0, at(0), ("", ((((0, "aa"),), ""),)))
        self.told("a" * 5, *of_one(ECHO, [("a", tuple([((min(k + 1, 5),), k == 5) for k in range(6)]))]), 0, at(0),
                  ("", ((((0, ""),), ""),)))
        self.told("a" * 6, *of_one(ECHO, [("a", tuple([((min(k + 1, 5),), k == 5) for k in range(6)]))]), 0, at(0),
                  ("aaaa", ((((0, ""),), "a"),)))
        lot = lot_of_words("ab", ["aab", "abb"])
        self.told("abb", *of_one(ECHO, [lot]), 0, at(0), ("aa", ((((0, ""), (0, "")), "b"),)))

    def test_a_text_that_leads_to_where_all_is_lost(self):
        web, frame = TRAPPED
        self.told(None, web, frame, 0, at(0), SAME)
        self.told(None, web, frame, 1, at(0, 1), SAME)
        trapped = ("", ((((0, "c"), (0, "b")), ""),))
        self.told("a", web, frame, 0, at(0), trapped)
        self.told("a", web, frame, 1, at(0, 1), trapped)
        self.told("", web, frame, 0, at(0), ("", ((((0, "a"), (0, "b")), "c"),)))
        web, frame = of_one(PARITY, [XS])
        self.told("x", web, frame, 0, at(0), ("", ((((0, "a"),), ""),)))
        self.told("xx", web, frame, 0, at(0), ("", ((((1, "b"),), ""), (((1, "a"),), ""))))

    def test_another_listener_that_parts(self):
        web = ((ECHO,), (("ab", "x", ((((0, ""), (0, "x")), ""),)),))
        frame = (("", "b"), ((0, ALL),), (("", "b"), ("xxx",)))
        self.assertEqual(good(web, frame), [[]])
        web = ((("ab", "x", ((((0, "x"), (0, "x")), ""),)),), web[1])
        frame = (("", "b"), ((0, XS),), (("", "x"), ("x",)))
        here = good(web, frame)[0][0]
        self.told(None, web, frame, 0, here, ("", ((((0, "a"),), ""),)))
        self.told("x", web, frame, 0, here, ("", ((((0, "b"),), ""),)))
        self.told("xx", web, frame, 0, here, ("", ((((1, "a"),), ""), (((1, "b"),), ""))))
        web, frame = (web[0], (TWOS,)), (("", ""), ((0, XS),), (("", ""), ("",)))
        self.assertEqual(good(web, frame), [[]])
        self.refused(web, frame, 0, come_to(web, frame)[0][0], ("", ((((0, "a"),), ""),)))

    def test_a_good_standing_that_is_not_come_to(self):
        reader = ("a", "a", ((((0, "a"),), ""), (((0, "a"),), ""), (((2, "a"),), None)))
        web, frame = of_one(reader, [AS])
        self.assertEqual(come_to(web, frame), [[at(0)]])
        self.told(None, web, frame, 0, at(1), SAME_AS)
        self.refused(web, frame, 0, at(2), SAME_AS)

    def test_what_is_no_good_standing_at_the_hole(self):
        web, frame = PAIRED
        self.refused(web, frame, 0, come_to(web, frame)[0][0], SAME)
        web, frame = TRAPPED
        self.assertTrue(is_standing(web, frame, 1, at(1, 1)))
        self.refused(web, frame, 1, at(1, 1), SAME)
        self.refused(web, frame, 1, at(0), SAME)
        self.refused(web, frame, 0, at(0, 1), SAME)
        for thing in OTHER_THINGS + (nested(20), at(True), at(False), at(0, False), at(2), at(-1), ([(0,)], (0,)),
                                     (((0,),), [0]), [((0,),), (0,)], (at(0),)):
            self.refused(web, frame, 0, thing, SAME)

    def test_no_maker_is_right_where_the_end_has_to_be_known_ahead(self):
        web, frame = of_one(PARITY, [XS])
        for begin in ("", "a", "b"):
            for way in ("", "a", "aa", "b"):
                for end in ("", "a", "b"):
                    for more in ("", "a"):
                        maker = (begin, ((((1, way),), end), (((0, more),), "")))
                        self.assertIsNot(wrong_word(web, frame, 0, at(0), maker), None)

    def test_a_listener_that_hears_nothing(self):
        web, frame = of_one(QUIET, [("c", (((None,), True),))])
        self.told(None, web, frame, 0, at(0), ("abba", ((((0, "b"),), "aaab"),)))
        self.told("c", *of_one(("ab", "c", ((((0, "c"), (0, "")), ""),)), [("c", (((0,), True),))]), 0, at(0),
                  ("b", ((((0, ""),), "bb"),)))

    def test_by_chance_makers_that_write_by_guides(self):
        chance = random.Random(101)
        right = wrong = 0
        for web, frame in some_plays(102, 400):
            for (i, here), table in (guide(web, frame) or {}).items():
                maker = maker_of(table)
                if maker is None:
                    continue
                right += 1
                self.told(None, web, frame, i, here, maker)
                for _ in range(3):
                    changed = self.changed(chance, maker, web[0][0][0])
                    found = wrong_word(web, frame, i, here, changed)
                    if found is None or len(found) <= 6:
                        self.told(found, web, frame, i, here, changed)
                    wrong += found not in (None, "")
        self.assertGreater(right, 100)
        self.assertGreater(wrong, 50)

    def changed(self, chance, maker, signs):
        """The maker with one of its texts, or a next state, exchanged."""
        begin, states = maker
        states = [([list(way) for way in ways], end) for ways, end in states]
        text = "".join(chance.choices(signs, k=chance.randint(0, 2)))
        k = chance.randrange(len(states))
        deed = chance.randrange(5)
        if deed == 0:
            states[k] = (states[k][0], text)
        elif deed == 1:
            begin = text
        else:
            way = chance.choice(states[k][0])
            way[deed % 2] = (chance.randrange(len(states)), text)[deed % 2]
        return (begin, tuple([(tuple([tuple(way) for way in ways]), end) for ways, end in states]))


class TestSamples(unittest.TestCase):
    def test_they_are_what_they_are_called(self):
        self.assertTrue(is_web(((TRAP,),)))


if __name__ == "__main__":
    unittest.main()
