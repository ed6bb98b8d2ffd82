"""Readers: what is one, what it tells, and which one goes along with another."""

import copy
import random
import unittest

from foeholes.readers import goes_along, is_reader, read_on, telling
from foeholes.rows import as_one
from tests.samples import (
    PAIRS, SHUT, SHY, THREES, all_texts, in_a_ring, one_state, slow_on, slow_telling, some_reader, some_text,
)

# One state, one sign each: all others below differ from it in one thing.
LEAST = ("a", "b", ((((0, "b"),), "b"),))


def with_way(way):
    return ("a", "b", (((way,), "b"),))


def with_end(end):
    return ("a", "b", ((((0, "b"),), end),))


class TestIsReader(unittest.TestCase):
    def readers(self, *things):
        for thing in things:
            with self.subTest(thing=thing):
                ahead = copy.deepcopy(thing)
                self.assertIs(is_reader(thing), True)
                self.assertEqual(thing, ahead)

    def others(self, *things):
        for thing in things:
            with self.subTest(thing=thing):
                ahead = copy.deepcopy(thing)
                self.assertIs(is_reader(thing), False)
                self.assertEqual(thing, ahead)

    def test_plain_readers(self):
        self.readers(LEAST, PAIRS, THREES, SHY, SHUT)

    def test_one_to_eight_signs_are_read(self):
        self.readers(one_state("a", "b"), one_state("ab", "b"), one_state("abcdefgh", "b"))
        self.others(one_state("", "b"), one_state("abcdefghi", "b"))

    def test_one_to_eight_signs_are_told(self):
        self.readers(one_state("a", "b"), one_state("a", "bc"), one_state("a", "abcdefgh"))
        self.others(one_state("a", ""), one_state("a", "abcdefghi"))

    def test_signs_go_from_the_exclamation_mark_to_the_tilde(self):
        self.readers(one_state("!~", "!~", "!~"), one_state("~", "!"), one_state("!09AZaz~", "%+"))
        for wrong in (" ", " a", "\n", "\x7f", "a\x7f", "\x00", "\u00e4", "a\u20ac"):
            self.others(one_state(wrong, "b"), one_state("a", wrong))

    def test_signs_are_sorted_and_unlike(self):
        for wrong in ("ba", "aa", "abb", "acb", "aab", "abab", "aB", "a!"):
            self.others(one_state(wrong, "b"), one_state("a", wrong))
        self.readers(one_state("Ba", "!a"))

    def test_signs_are_a_text(self):
        for wrong in (("a", "b"), ["a"], {"a": 1}, 1, None, True):
            self.others((wrong, "b", LEAST[2]), ("a", wrong, LEAST[2]))
        self.others((("a",), "b", LEAST[2]), ("a", ("b",), LEAST[2]))

    def test_one_to_six_states(self):
        self.readers(*[in_a_ring(many) for many in range(1, 7)])
        self.others(("a", "b", ()), in_a_ring(7), in_a_ring(8))

    def test_a_way_for_each_sign(self):
        way = (0, "b")
        self.readers(("ac", "b", (((way, way), ""),)))
        self.others(("ac", "b", (((way,), ""),)), ("ac", "b", (((way, way, way), ""),)), ("ac", "b", (((), ""),)))
        self.others(("ac", "b", (((way, way), ""), ((way,), ""))))

    def test_a_way_leads_to_a_state_that_is_there(self):
        self.others(with_way((1, "b")), with_way((-1, "b")), with_way((10 ** 59, "b")), with_way((-10 ** 59, "b")))
        two = in_a_ring(2)[2]
        self.readers(("a", "b", two))
        self.others(("a", "b", two + ((((3, "b"),), ""),)), ("a", "b", two + ((((-1, "b"),), ""),)))
        self.readers(("a", "b", two + ((((2, "b"),), ""),)))

    def test_a_state_has_a_whole_number(self):
        self.others(*[with_way((wrong, "b")) for wrong in (True, False, None, "0", "", (0,), [0], {})])
        self.others(("a", "b", in_a_ring(2)[2] + ((((True, "b"),), ""),)))

    def test_at_most_three_signs_are_told_by_a_way(self):
        self.readers(*[with_way((0, told)) for told in ("", "b", "bb", "bbb")])
        self.others(with_way((0, "bbbb")), with_way((0, "b" * 200)))

    def test_a_way_tells_signs_that_are_told(self):
        self.others(*[with_way((0, wrong)) for wrong in ("a", "ba", "bab", "abb", " ", "B")])
        self.others(*[with_way((0, wrong)) for wrong in (None, True, 0, ("b",), ["b"], {"b": 1}, (), [])])

    def test_at_most_three_signs_are_told_at_an_end(self):
        self.readers(*[with_end(told) for told in (None, "", "b", "bb", "bbb")])
        self.others(with_end("bbbb"), with_end("b" * 200))

    def test_an_end_tells_signs_that_are_told(self):
        self.others(*[with_end(wrong) for wrong in ("a", "ba", "bab", "abb", " ", "B")])
        self.others(*[with_end(wrong) for wrong in (False, True, 0, ("b",), ["b"], {"b": 1}, (), [], (None,))])

    def test_each_state_is_looked_at(self):
        good = in_a_ring(3)[2]
        for wrong in ((((0, "a"),), ""), (((0, "b"),), "a"), (((3, "b"),), ""), ((), ""), None):
            for k in range(3):
                self.others(("a", "b", good[:k] + (wrong,) + good[k + 1:]))

    def test_each_way_is_looked_at(self):
        for wrong in ((1, "d"), (0, "a"), (True, "d"), [0, "d"]):
            for k in range(3):
                ways = [(0, "d")] * 3
                ways[k] = wrong
                self.others(("abc", "d", ((tuple(ways), ""),)))

    def test_a_list_is_no_tuple(self):
        way = (0, "b")
        self.others(
            list(LEAST), ("a", "b", list(LEAST[2])), ("a", "b", ([(way,), "b"],)), ("a", "b", (([way], "b"),)),
            with_way([0, "b"]), ["a", "b", [[[[0, "b"]], "b"]]],
        )

    def test_a_part_is_missing_or_surplus(self):
        way = (0, "b")
        self.others(
            LEAST[:2], LEAST[1:], LEAST[:1], LEAST + ("",), LEAST + (None,), LEAST + LEAST,
            ("a", "b", (((way,),),)), ("a", "b", (((way,), "b", "b"),)), ("a", "b", ((),)), ("a", "b", (("b",),)),
            with_way((0,)), with_way(("b",)), with_way(()), with_way((0, "b", "b")), with_way((0, "b", 0)),
        )

    def test_parts_in_another_order(self):
        self.others(("a", LEAST[2], "b"), (LEAST[2], "a", "b"), with_way(("b", 0)), ("a", "b", (("b", ((0, "b"),)),)))

    def test_things_of_other_kinds(self):
        deep = ()
        for _ in range(20):
            deep = (deep,)
        self.others(
            None, True, False, 0, 5, -10 ** 59, "", "abc", "a", (), [], {}, {"a": LEAST}, [LEAST], deep,
            (None, None, None), (0, 0, 0), (1, 2, 3), ((), (), ()), ([], [], []), "abc", ("a", "b", "c"),
            ("a", "b", None), ("a", "b", 3), ("a", "b", {}), ("a", "b", {0: LEAST[2][0]}), ("a", "b", (None,)),
            ("a", "b", ("ab",)), ("a", "b", ((None, "b"),)), ("a", "b", (("0b", "b"),)), with_way("0b"), with_way(None),
            tuple(range(5000)), [[0]] * 2500, {k: k for k in range(2500)}, ("a", "b", tuple(range(4000))),
        )

    def test_rows_and_webs_are_no_readers(self):
        self.others((LEAST,), ((LEAST,),), (LEAST, LEAST, LEAST), ((LEAST,), (LEAST,), (LEAST,)))


class TestReading(unittest.TestCase):
    def test_from_state_0(self):
        self.assertEqual(read_on(PAIRS, "a"), (0, "d"))
        self.assertEqual(read_on(PAIRS, "b"), (1, "cc"))
        self.assertEqual(read_on(PAIRS, "aba"), (1, "dccc"))
        self.assertEqual(read_on(PAIRS, "abaab"), (0, "dcccc"))
        self.assertEqual(read_on(PAIRS, "abaab", state=0), (0, "dcccc"))
        self.assertEqual(read_on(THREES, "cdcddd"), (0, "zzz"))

    def test_from_other_states(self):
        self.assertEqual(read_on(PAIRS, "aba", state=1), (0, "cd"))
        self.assertEqual(read_on(PAIRS, "b", state=1), (0, ""))
        self.assertEqual(read_on(THREES, "c", state=1), (2, ""))
        self.assertEqual(read_on(THREES, "d", state=2), (0, "z"))
        self.assertEqual(read_on(THREES, "cccc", state=2), (0, "zzzz"))

    def test_the_empty_text(self):
        for reader in (PAIRS, THREES, SHY, SHUT):
            for state in range(len(reader[2])):
                self.assertEqual(read_on(reader, "", state=state), (state, ""))
            self.assertEqual(read_on(reader, ""), (0, ""))

    def test_no_end_is_told_where_it_reads_on(self):
        self.assertEqual(read_on(THREES, "c"), (1, ""))
        self.assertEqual(read_on(SHUT, "ab"), (0, "cd"))

    def test_telling(self):
        self.assertEqual(telling(THREES, ""), "x")
        self.assertEqual(telling(THREES, "d"), "y")
        self.assertEqual(telling(THREES, "dd"), "z")
        self.assertEqual(telling(THREES, "ddc"), "zzx")
        self.assertEqual(telling(THREES, "cccdddc"), "zzzy")
        self.assertEqual(telling(PAIRS, "abab"), "dccc")

    def test_a_text_that_is_not_let_by(self):
        self.assertIsNone(telling(PAIRS, "b"))
        self.assertIsNone(telling(PAIRS, "abaaa"))
        self.assertEqual(telling(PAIRS, ""), "")
        for text in all_texts("ab", 4):
            self.assertIsNone(telling(SHUT, text))

    def test_long_texts(self):
        self.assertEqual(read_on(PAIRS, "a" * 200), (0, "d" * 200))
        self.assertEqual(telling(PAIRS, "b" * 200), "c" * 200)
        self.assertEqual(telling(THREES, "cd" * 3000), "zzz" * 1000 + "x")
        self.assertIsNone(telling(PAIRS, "b" * 199))

    def test_signs_are_found_by_their_places(self):
        signs = "!#8AQaz~"
        reader = (signs, signs, ((tuple((0, sign + "!") for sign in signs), "~"),))
        self.assertTrue(is_reader(reader))
        self.assertEqual(telling(reader, "~!zA8#aQ"), "~!!!z!A!8!#!a!Q!~")

    def test_against_a_slow_way(self):
        chance = random.Random(4)
        for _ in range(200):
            reader = some_reader(chance, "abc", "xyz", chance.randint(1, 6))
            self.assertTrue(is_reader(reader))
            text = some_text(chance, "abc", 30)
            for state in range(len(reader[2])):
                self.assertEqual(read_on(reader, text, state=state), slow_on(reader, text, state))
            self.assertEqual(telling(reader, text), slow_telling(reader, text))

    def test_of_what_as_one_tells(self):
        reader = as_one((PAIRS, THREES))
        self.assertEqual(read_on(reader, "")[1], "")
        self.assertEqual(read_on(reader, "aaa")[1], "z")
        self.assertEqual(telling(reader, "aaaa"), "zy")
        self.assertEqual(telling(reader, "bba"), "zx")
        self.assertIsNone(telling(reader, "ab"))
        for state in range(len(reader[2])):
            self.assertEqual(read_on(reader, "abba", state=state), slow_on(reader, "abba", state))

    def test_of_many_states_and_long_tellings(self):
        long = one_state("a", "a", "aaa", "aaa")
        reader = as_one((long, long, long))
        self.assertEqual(read_on(reader, "aa"), (0, "a" * 54))
        self.assertEqual(telling(reader, "aa"), "a" * (54 + 39))


def let_by_later(reader, text, longest):
    """Whether some signs, at most so many, follow so that the reader lets all by."""
    return any(slow_telling(reader, text + rest) is not None for rest in all_texts(reader[0], longest))


def slow_goes_along(one, other, longest):
    for text in all_texts(one[0], longest):
        if let_by_later(one, text, len(one[2])) and slow_on(one, text, 0)[1] != slow_on(other, text, 0)[1]:
            return False
        if slow_telling(one, text) is not None and slow_telling(one, text) != slow_telling(other, text):
            return False
    return True


class TestGoesAlong(unittest.TestCase):
    def alike(self, one, other):
        self.assertIs(goes_along(one, other), True)
        self.assertIs(goes_along(other, one), True)

    def test_a_reader_with_itself(self):
        for reader in (PAIRS, THREES, SHY, SHUT, LEAST):
            self.alike(reader, reader)

    def test_states_that_are_numbered_otherwise(self):
        turned = ("cd", "xyz", (
            (((2, ""), (2, "")), "x"),
            (((0, "zz"), (0, "z")), "z"),
            (((1, ""), (1, "")), "y"),
        ))
        self.alike(THREES, turned)

    def test_a_state_more_that_tells_the_same(self):
        self.alike(in_a_ring(1), in_a_ring(6))
        self.alike(in_a_ring(2), in_a_ring(3))

    def test_a_state_that_is_never_come_to(self):
        surplus = ("ab", "cd", PAIRS[2] + ((((0, "ddd"), (2, "c")), "cdc"),))
        self.alike(PAIRS, surplus)

    def test_what_a_reader_might_tell_does_not_count(self):
        self.alike(one_state("a", "b", "b"), one_state("a", "bc", "b"))

    def test_they_part_by_a_sign(self):
        self.assertFalse(goes_along(one_state("ab", "cd", "c"), one_state("ab", "cd", "d")))
        self.assertFalse(goes_along(one_state("ab", "cd", "c"), one_state("ab", "cd", "cc")))
        self.assertFalse(goes_along(one_state("ab", "cd", ""), one_state("ab", "cd", "c")))
        last = ("ab", "c", ((((0, "c"), (0, "c")), ""),))
        self.assertFalse(goes_along(last, ("ab", "c", ((((0, "c"), (0, "cc")), ""),))))
        self.assertFalse(goes_along(last, ("ab", "c", ((((0, "cc"), (0, "c")), ""),))))

    def test_they_part_only_far_on(self):
        late = ("a", "b", in_a_ring(6)[2][:5] + ((((0, "bb"),), ""),))
        self.assertTrue(is_reader(late))
        self.assertFalse(goes_along(in_a_ring(1), late))
        self.assertFalse(goes_along(late, in_a_ring(1)))
        self.assertFalse(goes_along(in_a_ring(5), late))

    def test_one_tells_later_what_the_other_tells_now(self):
        now = ("a", "b", ((((1, "b"),), ""), (((1, ""),), "")))
        late = ("a", "b", ((((1, ""),), ""), (((1, "b"),), "")))
        at_the_end = ("a", "b", ((((1, ""),), ""), (((1, ""),), "b")))
        for one, other in ((now, late), (late, now), (now, at_the_end), (at_the_end, now)):
            self.assertFalse(goes_along(one, other))
        self.assertEqual(telling(now, "a"), telling(at_the_end, "a"))

    def test_they_part_at_an_end(self):
        self.assertFalse(goes_along(one_state("a", "bc", "", "b"), one_state("a", "bc", "", "c")))
        self.assertFalse(goes_along(one_state("a", "bc", "", ""), one_state("a", "bc", "", "c")))
        self.assertFalse(goes_along(one_state("a", "bc", "", "c"), one_state("a", "bc", "", "")))
        for k in range(6):
            other = in_a_ring(6)[2]
            other = ("a", "b", other[:k] + ((other[k][0], "b"),) + other[k + 1:])
            self.assertFalse(goes_along(in_a_ring(6), other))
            self.assertFalse(goes_along(other, in_a_ring(6)))

    def test_the_second_one_lets_less_by(self):
        for end in ("", "b"):
            self.assertFalse(goes_along(one_state("a", "b", "", end), one_state("a", "b", "", None)))

    def test_the_second_one_may_let_more_by(self):
        for end in ("", "b"):
            once = ("a", "b", ((((1, "b"),), ""), (((0, "b"),), None)))
            more = ("a", "b", ((((1, "b"),), ""), (((0, "b"),), end)))
            self.assertTrue(goes_along(once, more))
            self.assertFalse(goes_along(more, once))

    def test_with_a_reader_that_lets_nothing_by_all_go_along(self):
        for other in (PAIRS, SHUT, one_state("ab", "cd", "ddd"), one_state("ab", "x", "", "x")):
            self.assertTrue(goes_along(SHUT, other))
        self.assertFalse(goes_along(PAIRS, SHUT))

    def test_texts_that_the_first_one_can_no_longer_let_by(self):
        lost = (((1, "c"), (1, "c")), None)
        one = ("ab", "c", ((((0, "c"), (1, "")), ""), lost))
        other = ("ab", "c", ((((0, "c"), (1, "ccc")), ""), (((0, ""), (0, "cc")), "c")))
        self.assertTrue(goes_along(one, other))
        self.assertFalse(goes_along(other, one))
        by_another_end = ("ab", "c", ((((0, "c"), (1, "ccc")), "c"), lost))
        self.assertFalse(goes_along(one, by_another_end))

    def test_texts_that_it_lets_by_only_far_on(self):
        # Of six states in a ring only the last one lets by, so that all ways from 0 on count.
        ways = in_a_ring(6)[2]
        one = ("a", "b", tuple((state[0], None) for state in ways[:5]) + ((ways[5][0], "b"),))
        self.alike(one, one)
        for k in range(6):
            other = one[2][:k] + (((((k + 1) % 6, ""),), one[2][k][1]),) + one[2][k + 1:]
            self.assertFalse(goes_along(one, ("a", "b", other)))

    def test_a_chain_whose_states_stand_in_any_order(self):
        # Only the chain's last state lets by; that state 0 may has to be worked out from there back.
        for order in ((0, 1, 2, 3, 4, 5), (0, 5, 4, 3, 2, 1), (0, 3, 1, 5, 2, 4)):
            states = [None] * 6
            for at, after in zip(order, order[1:]):
                states[at] = (((after, "b"),), None)
            states[order[5]] = (((order[5], ""),), "")
            one = ("a", "b", tuple(states))
            self.assertTrue(is_reader(one))
            self.assertTrue(goes_along(one, one))
            self.assertFalse(goes_along(one, one_state("a", "b", "")))

    def test_a_pair_of_states_is_come_to_again(self):
        # From states 0 and 0 a leads to both at once; only by b, and from one pair alone, do they part.
        one = ("ab", "c", ((((0, ""), (1, "")), ""), (((0, ""), (1, "")), "")))
        other = ("ab", "c", ((((0, ""), (1, "")), ""), (((0, ""), (2, "")), ""), (((0, ""), (0, "c")), "")))
        self.assertFalse(goes_along(one, other))
        self.assertFalse(goes_along(other, one))

    def test_against_a_slow_way(self):
        chance = random.Random(5)
        found = {True: 0, False: 0}
        for _ in range(600):
            one = some_reader(chance, "ab", "x", 2, shut=2)
            other = self.nearly(chance, one)
            told = goes_along(one, other)
            self.assertIs(told, slow_goes_along(one, other, 5), (one, other))
            found[told] += 1
        self.assertGreater(min(found.values()), 100)

    def nearly(self, chance, reader):
        """The reader with one way or one end in another form, or with a state copied."""
        states = [(list(ways), end) for ways, end in reader[2]]
        if chance.randrange(2):
            states.append((list(states[1][0]), states[1][1]))
            states[chance.randrange(3)][0][chance.randrange(2)] = (chance.choice([1, 2]), some_text(chance, "x", 1))
        if chance.randrange(2):
            at = chance.randrange(len(states))
            states[at] = (states[at][0], chance.choice([None, "", "x"]))
        return (reader[0], reader[1], tuple((tuple(ways), end) for ways, end in states))

    def test_nothing_is_changed(self):
        one, other = copy.deepcopy(PAIRS), copy.deepcopy(SHUT)
        goes_along(one, other)
        self.assertEqual((one, other), (PAIRS, SHUT))
