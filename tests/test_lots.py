"""Lots: what is one, and what words it has."""

import copy
import random
import unittest

from foeholes.lots import first_word, how_many, is_endless, is_lot, is_word, lot_of_word, trimmed
from tests.frame_samples import (
    ALL, EMPTY, LONG, MIXED, NONE, OTHER_THINGS, lot_of_words, nested, slow_is_word, slow_words, some_lot,
)
from tests.samples import all_texts

# One state, one sign: all others below differ from it in one thing.
LEAST = ("a", (((0,), True),))


def with_way(way):
    return ("a", (((way,), True),))


def with_good(good):
    return ("a", (((0,), good),))


def in_a_ring(many):
    """A lot of so many states, each with a way to the next one; the first one is good."""
    return ("a", tuple([(((k + 1) % many,), k == 0) for k in range(many)]))


def one_state(signs):
    return (signs, (((0,) * len(signs), True),))


def some_lots(seed, many):
    """Lots by chance of one to six states, but always the same."""
    chance = random.Random(seed)
    for _ in range(many):
        yield some_lot(chance, chance.choice(["a", "ab", "abc"]), chance.randint(1, 6))


class TestIsLot(unittest.TestCase):
    def told(self, kind, *things):
        for thing in things:
            with self.subTest(thing=thing):
                ahead = copy.deepcopy(thing)
                self.assertIs(is_lot(thing), kind)
                self.assertEqual(thing, ahead)

    def test_plain_lots(self):
        self.told(True, LEAST, ALL, EMPTY, MIXED, LONG)

    def test_a_lot_without_words_is_one(self):
        self.told(True, NONE, with_good(False), ("a", (((None,), False),)))

    def test_one_to_eight_signs(self):
        self.told(True, one_state("a"), one_state("ab"), one_state("abcdefgh"))
        self.told(False, one_state(""), one_state("abcdefghi"))

    def test_signs_go_from_the_exclamation_mark_to_the_tilde(self):
        self.told(True, one_state("!"), one_state("~"), one_state("!09AZaz~"))
        for wrong in (" ", " a", "\n", "\x7f", "a\x7f", "\x00", "\u00e4", "a\u20ac"):
            self.told(False, one_state(wrong))

    def test_signs_are_sorted_and_unlike(self):
        self.told(False, *[one_state(wrong) for wrong in ("ba", "aa", "abb", "aab", "acb", "abab", "aB", "a!")])

    def test_signs_are_a_text(self):
        self.told(False, *[(wrong, LEAST[1]) for wrong in (("a",), ["a"], {"a": 1}, 1, None, True)])

    def test_one_to_six_states(self):
        self.told(True, *[in_a_ring(many) for many in range(1, 7)])
        self.told(False, ("a", ()), in_a_ring(7), in_a_ring(8))

    def test_a_way_for_each_sign(self):
        self.told(True, ("ab", (((0, None), True),)))
        self.told(False, ("ab", (((0,), True),)), ("ab", (((0, 0, 0), True),)), ("ab", (((), True),)))
        self.told(False, ("ab", (((0, 0), True), ((0,), True))), ("a", (((), True),)), ("a", (((0, None), True),)))

    def test_a_way_is_none_or_leads_to_a_state_that_is_there(self):
        self.told(True, with_way(None), with_way(0))
        self.told(False, *[with_way(wrong) for wrong in (1, -1, 6, 10 ** 59, -10 ** 59)])
        two = in_a_ring(2)[1]
        self.told(True, ("a", two + (((2,), True),)), ("a", two + (((None,), True),)))
        self.told(False, ("a", two + (((3,), True),)), ("a", two + (((-1,), True),)))

    def test_a_way_is_a_whole_number(self):
        self.told(False, *[with_way(wrong) for wrong in (True, False, "0", "", (0,), [0], {}, ())])
        self.told(False, ("a", in_a_ring(2)[1] + (((True,), True),)))

    def test_good_is_a_truth(self):
        self.told(True, with_good(True), with_good(False))
        self.told(False, *[with_good(wrong) for wrong in (1, 0, None, "", "True", (True,), [True], {}, -1, 2)])

    def test_each_state_and_each_way_is_looked_at(self):
        for wrong in (((3,), True), ((0,), 1), ((0,),), ((0,), True, True), None, [(0,), True], ((0, 0), True)):
            for k in range(3):
                states = in_a_ring(3)[1]
                self.told(False, ("a", states[:k] + (wrong,) + states[k + 1:]))
        for k in range(3):
            ways = [None, 0, None]
            ways[k] = True
            self.told(False, ("abc", ((tuple(ways), True),)))

    def test_a_list_is_no_tuple(self):
        self.told(False, list(LEAST), ("a", [((0,), True)]), ("a", ([(0,), True],)), ("a", (([0], True),)))
        self.told(False, ["a", [[[0], True]]], {"a": LEAST[1]}, ("a", {0: ((0,), True)}))

    def test_a_missing_or_a_surplus_part(self):
        self.told(False, ("a",), (LEAST[1],), LEAST + (None,), LEAST + LEAST, ("a", "b") + LEAST[1:], LEAST[::-1])
        self.told(False, ("a", (((0,),),)), ("a", ((True,),)), ("a", (((0,), True, ""),)), ("a", ((True, (0,)),)))
        self.told(False, ("a", ((0,), True)), ("a", (0, True)))

    def test_things_of_other_kinds(self):
        self.told(False, *OTHER_THINGS, nested(20))
        self.told(False, *[("a", thing) for thing in OTHER_THINGS], *[("a", (thing,)) for thing in OTHER_THINGS])
        self.told(False, *[("a", ((thing, True),)) for thing in OTHER_THINGS if thing not in ((0,), (None,))])

    def test_by_chance(self):
        self.told(True, *some_lots(90, 50))


class TestIsWord(unittest.TestCase):
    def words(self, lot, *words):
        for word in words:
            with self.subTest(lot=lot, word=word):
                self.assertIs(is_word(lot, word), True)

    def others(self, lot, *texts):
        for text in texts:
            with self.subTest(lot=lot, text=text):
                self.assertIs(is_word(lot, text), False)

    def test_the_empty_word(self):
        self.words(EMPTY, "")
        self.words(ALL, "")
        self.others(NONE, "")
        self.others(MIXED, "")

    def test_plain_words(self):
        self.words(MIXED, "a", "b", "ba", "baa", "baaaaaa")
        self.others(MIXED, "aa", "ab", "bb", "bab", "baab")

    def test_signs_that_are_not_the_lots_own(self):
        self.others(ALL, "c", "ac", "ca", "abc", "A", " ", "a b", "\n", "\u00e4", "~", "!", "\x00")
        self.others(MIXED, "ca", "bac", "c")

    def test_ways_that_are_none(self):
        self.others(EMPTY, "a", "b", "ab")
        self.others(("ab", (((1, None), True), ((None, 0), True))), "b", "aa", "abb")
        self.words(("ab", (((1, None), True), ((None, 0), True))), "", "a", "ab", "aba")

    def test_texts_longer_than_the_lot_has_states(self):
        self.words(ALL, "ab" * 30, "a" * 200)
        self.words(in_a_ring(6), "a" * 6, "a" * 60, "a" * 198)
        self.others(in_a_ring(6), "a" * 5, "a" * 61, "a" * 200)
        self.words(LONG, "aaaaa")
        self.others(LONG, "", "a", "aa", "aaa", "aaaa", "aaaaaa", "a" * 200)

    def test_good_states_amid_the_text_do_not_count(self):
        self.others(in_a_ring(2), "a", "aaa")

    def test_against_a_slow_way(self):
        for lot in some_lots(91, 60):
            for text in all_texts("abc", 4):
                self.assertIs(is_word(lot, text), slow_is_word(lot, text))

    def test_the_lot_stays(self):
        lot = copy.deepcopy(MIXED)
        is_word(lot, "baa")
        self.assertEqual(lot, MIXED)


class TestHowMany(unittest.TestCase):
    def test_length_none(self):
        self.assertEqual([how_many(lot, 0) for lot in (ALL, EMPTY, NONE, MIXED, LONG)], [1, 1, 0, 0, 0])

    def test_length_one(self):
        self.assertEqual([how_many(lot, 1) for lot in (ALL, EMPTY, NONE, MIXED, LONG)], [2, 0, 0, 2, 0])

    def test_length_sixty(self):
        self.assertEqual([how_many(lot, 60) for lot in (ALL, EMPTY, NONE, MIXED, LONG)], [2 ** 60, 0, 0, 1, 0])
        self.assertEqual(how_many(one_state("abcdefgh"), 60), 8 ** 60)
        self.assertEqual(how_many(one_state("abcdefgh"), 59), 8 ** 59)

    def test_lots_without_words(self):
        for lot in (NONE, ("ab", (((1, 1), False), ((0, 0), False), ((0, 0), True)))):
            self.assertEqual([how_many(lot, length) for length in range(61)], [0] * 61)

    def test_lots_with_one_word(self):
        self.assertEqual([how_many(LONG, length) for length in range(61)], [0] * 5 + [1] + [0] * 55)
        self.assertEqual([how_many(EMPTY, length) for length in range(61)], [1] + [0] * 60)

    def test_as_many_as_there_are_texts(self):
        self.assertEqual([how_many(ALL, length) for length in range(61)], [2 ** length for length in range(61)])
        many = ("abcde", (((0, 1, 0, 1, 0), True), ((1, 1, 1, 1, 0), True)))
        self.assertEqual([how_many(many, length) for length in range(61)], [5 ** length for length in range(61)])

    def test_ways_of_several_signs_to_one_state_count_each(self):
        lot = ("abc", (((1, 1, None), False), ((2, None, 2), False), ((None, None, None), True)))
        self.assertEqual([how_many(lot, length) for length in range(4)], [0, 0, 4, 0])

    def test_a_sum_over_unlike_states(self):
        # No two a side by side: the numbers of Fibonacci.
        lot = ("ab", (((1, 0), True), ((None, 0), True)))
        told = [how_many(lot, length) for length in range(61)]
        self.assertEqual(told[:6], [1, 2, 3, 5, 8, 13])
        self.assertEqual(told[60], 4052739537881)
        self.assertTrue(all(told[k] == told[k - 1] + told[k - 2] for k in range(2, 61)))

    def test_it_is_a_whole_number(self):
        for lot in (ALL, EMPTY, NONE, MIXED):
            for length in (0, 1, 60):
                self.assertIs(type(how_many(lot, length)), int)

    def test_against_all_texts_of_short_lengths(self):
        for lot in some_lots(92, 80):
            words = slow_words(lot, 6)
            for length in range(7):
                self.assertEqual(how_many(lot, length), len([word for word in words if len(word) == length]))


class TestFirstWord(unittest.TestCase):
    def test_the_empty_word(self):
        self.assertEqual(first_word(EMPTY), "")
        self.assertEqual(first_word(ALL), "")
        self.assertEqual(first_word(in_a_ring(6)), "")

    def test_none_where_there_is_none(self):
        self.assertIsNone(first_word(NONE))
        self.assertIsNone(first_word(with_good(False)))
        self.assertIsNone(first_word(("ab", (((1, 1), False), ((0, None), False), ((0, 0), True)))))
        self.assertIsNone(first_word(("a", (((None,), False), ((None,), True)))))

    def test_two_of_one_length(self):
        self.assertEqual(first_word(MIXED), "a")
        self.assertEqual(first_word(lot_of_words("ab", ["bb", "ba"])), "ba")
        self.assertEqual(first_word(lot_of_words("ab", ["ba", "ab"])), "ab")
        self.assertEqual(first_word(lot_of_words("!a~", ["~!", "~a"])), "~!")

    def test_the_one_sorted_ahead_may_go_by_a_state_of_a_greater_number(self):
        lot = ("ab", (((2, 1), False), ((3, 3), False), ((None, 3), False), ((None, None), True)))
        self.assertEqual(first_word(lot), "ab")
        self.assertEqual(first_word(("ab", (((2, 1), False), ((None, None), True), ((None, None), True)))), "a")

    def test_a_shorter_one_goes_ahead_of_one_sorted_ahead(self):
        self.assertEqual(first_word(lot_of_words("ab", ["aab", "b"])), "b")
        self.assertEqual(first_word(lot_of_words("ab", ["aaa", "bb"])), "bb")

    def test_one_that_is_as_long_as_the_lot_has_states_less_one(self):
        self.assertEqual(first_word(LONG), "aaaaa")
        lot = ("ab", tuple([((0, k + 1), False) for k in range(5)]) + (((None, None), True),))
        self.assertEqual(first_word(lot), "bbbbb")

    def test_against_a_slow_way(self):
        found = {True: 0, False: 0}
        for lot in some_lots(93, 200):
            words = slow_words(lot, len(lot[1]) - 1)
            self.assertEqual(first_word(lot), words[0] if words else None)
            found[words == []] += 1
        self.assertGreater(min(found.values()), 10)


class TestIsEndless(unittest.TestCase):
    def told(self, kind, *lots):
        for lot in lots:
            with self.subTest(lot=lot):
                ahead = copy.deepcopy(lot)
                self.assertIs(is_endless(lot), kind)
                self.assertEqual(lot, ahead)

    def test_lots_with_words_without_end(self):
        self.told(True, ALL, MIXED, LEAST, *[in_a_ring(many) for many in range(1, 7)])

    def test_lots_without_words_or_with_some(self):
        self.told(False, NONE, EMPTY, LONG, lot_of_words("ab", ["", "a", "ab", "ba"]))

    def test_as_many_words_as_a_lot_without_a_ring_may_have(self):
        steps = [((k + 1,) * 8, True) for k in range(5)]
        self.told(False, ("abcdefgh", tuple(steps) + (((None,) * 8, True),)))
        self.told(True, ("abcdefgh", tuple(steps) + (((None,) * 7 + (0,), True),)))

    def test_a_state_that_leads_back_to_itself_but_is_not_come_to(self):
        self.told(False, ("ab", (((None, None), True), ((1, 0), True))))
        self.told(False, ("ab", (((2, None), True), ((1, 1), True), ((None, None), True))))
        self.told(True, ("ab", (((2, None), True), ((1, 1), True), ((None, 1), True))))

    def test_a_state_that_leads_back_to_itself_from_which_no_good_one_is_come_to(self):
        self.told(False, ("ab", (((1, 2), True), ((1, 1), False), ((None, None), True))))
        self.told(False, ("ab", (((1, None), True), ((2, 2), False), ((1, 2), False))))
        self.told(True, ("ab", (((1, None), True), ((2, 2), False), ((1, 0), False))))

    def test_a_ring_ahead_of_or_behind_or_amid_the_good_ones(self):
        self.told(True, ("ab", (((0, 1), False), ((None, None), True))))
        self.told(True, ("ab", (((1, None), True), ((1, None), True))))
        self.told(True, ("ab", (((1, None), False), ((2, None), True), ((None, 1), False))))

    def test_rings_of_all_lengths_with_a_tail(self):
        for ring in range(1, 6):
            for tail in range(6 - ring):
                # tail states, then the ring's, then a good one that the ring's last state leads to.
                states = [((k + 1, None), False) for k in range(tail + ring - 1)]
                states += [((tail, tail + ring), False), ((None, None), True)]
                self.told(True, ("ab", tuple(states)))
                states[-2] = ((None, tail + ring), False)
                self.told(False, ("ab", tuple(states)))

    def test_against_a_slow_way(self):
        found = {True: 0, False: 0}
        for lot in some_lots(94, 150):
            # Endless just where some word is as long as the states are many, and less than twice that.
            if len(lot[0]) ** (2 * len(lot[1])) > 70000:
                continue
            words = slow_words(lot, 2 * len(lot[1]) - 1)
            kind = any(len(word) >= len(lot[1]) for word in words)
            self.assertIs(is_endless(lot), kind)
            found[kind] += 1
        self.assertGreater(min(found.values()), 10)

    def test_against_states_that_lead_back_to_themselves(self):
        for lot in some_lots(95, 300):
            states = lot[1]
            leads = {(k, way) for k, (ways, _) in enumerate(states) for way in ways if way is not None}
            for _ in states:
                leads |= {(a, d) for a, b in leads for c, d in leads if b == c}
            comes = {0} | {b for a, b in leads if a == 0}
            hopeful = {k for k, (_, good) in enumerate(states) if good}
            hopeful |= {a for a, b in leads if states[b][1]}
            self.assertIs(is_endless(lot), any((k, k) in leads for k in comes & hopeful))


class TestTrimmed(unittest.TestCase):
    def test_ways_behind_which_no_word_ends_are_none(self):
        lot = ("ab", (((1, 2), False), ((None, 2), True), ((2, 2), False)))
        self.assertEqual(trimmed(lot), ("ab", (((1, None), False), ((None, None), True), ((None, None), False))))
        self.assertEqual(trimmed(NONE), ("ab", (((None, None), False),)))

    def test_all_other_ways_stay(self):
        for lot in (ALL, EMPTY, MIXED, LONG):
            self.assertEqual(trimmed(lot), lot)

    def test_the_words_stay_and_each_way_is_the_beginning_of_one(self):
        for lot in some_lots(96, 100):
            kept = trimmed(lot)
            self.assertTrue(is_lot(kept))
            self.assertEqual(slow_words(kept, 5), slow_words(lot, 5))
            for ways, _ in kept[1]:
                for way in ways:
                    if way is not None:
                        self.assertTrue(any(slow_leads_to_good(lot, way)))


def slow_leads_to_good(lot, state):
    """Of the states that some texts lead to from this one, whether they are good."""
    found = {state}
    for _ in lot[1]:
        found |= {way for there in found for way in lot[1][there][0] if way is not None}
    return [lot[1][there][1] for there in found]


class TestLotOfWord(unittest.TestCase):
    def test_it_has_this_one_word(self):
        for word in all_texts("ab", 3):
            lot = lot_of_word("ab", word)
            self.assertTrue(is_lot(lot))
            self.assertEqual(slow_words(lot, 5), [word])

    def test_words_longer_than_a_lot_has_states(self):
        lot = lot_of_word("ab", "ab" * 30)
        self.assertTrue(is_word(lot, "ab" * 30))
        self.assertFalse(is_word(lot, "ab" * 29 + "aa"))
        self.assertFalse(is_word(lot, "ab" * 29 + "a"))
