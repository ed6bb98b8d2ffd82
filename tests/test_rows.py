"""Rows and webs: what is one, what it tells, and a row as one reader."""

import copy
import unittest

from foeholes.readers import is_reader, read_on, telling
from foeholes.rows import as_one, heard_by, is_row, is_web, row_end, row_on, row_telling
from tests.samples import (
    PAIRS, SHUT, SHY, THREES, all_texts, in_a_ring, one_state, slow_row_on, slow_row_telling, slow_telling, some_rows,
)

ONE = (PAIRS,)
TWO = (PAIRS, THREES)
THREE = (PAIRS, THREES, SHY)
ECHO = ("a", "a", ((((0, "a"),), ""),))
OTHER_THINGS = (
    None, True, False, 0, 3, -10 ** 59, "", "abc", (), [], {}, ((),), (None,), (0,), ("abc",), ([],), ({},),
    (((),),), {0: PAIRS}, tuple(range(5000)), [[]] * 2000,
)


class TestIsRow(unittest.TestCase):
    def told(self, kind, *things):
        for thing in things:
            with self.subTest(thing=thing):
                ahead = copy.deepcopy(thing)
                self.assertIs(is_row(thing), kind)
                self.assertEqual(thing, ahead)

    def test_one_to_three_readers(self):
        self.told(True, ONE, TWO, THREE, (ECHO,), (ECHO, ECHO), (ECHO, ECHO, ECHO))
        self.told(False, (), (ECHO, ECHO, ECHO, ECHO), (ECHO,) * 5)

    def test_what_one_tells_the_next_one_reads(self):
        self.told(True, (one_state("a", "bd"), one_state("abcd", "z")), (one_state("a", "a"), one_state("ab", "z")))
        self.told(True, (one_state("a", "abcdefgh"), one_state("abcdefgh", "z")))
        self.told(False, (one_state("a", "bd"), one_state("abc", "z")), (one_state("a", "ab"), one_state("b", "z")))
        self.told(False, (one_state("a", "z"), one_state("a", "z")), (THREES, PAIRS), (PAIRS, SHY))
        self.told(False, (PAIRS, THREES, one_state("xy", "a")), (PAIRS, one_state("c", "x"), one_state("x", "y")))

    def test_tells_count_though_they_are_never_told(self):
        self.told(False, (one_state("a", "bc", "b"), one_state("b", "z")))

    def test_each_part_is_a_reader(self):
        wrong = ("a", "a", ((((1, "a"),), ""),))
        for other in (wrong, list(ECHO), None, (ECHO,), 0, "a"):
            self.told(False, (other,), (other, ECHO), (ECHO, other), (ECHO, other, ECHO), (ECHO, ECHO, other))

    def test_a_row_is_a_tuple(self):
        self.told(False, [ECHO], [ECHO, ECHO], {0: ECHO}, {ECHO: 1})

    def test_things_of_other_kinds(self):
        self.told(False, *OTHER_THINGS)

    def test_a_reader_is_no_row_and_a_web_is_none(self):
        self.told(False, ECHO, PAIRS, THREES, (ONE,), (TWO,), (ONE, TWO, THREE))

    def test_what_as_one_tells_is_no_row_where_it_has_more_than_a_reader(self):
        more = as_one((in_a_ring(4), in_a_ring(3, "b")))
        self.assertEqual(len(more[2]), 12)
        self.told(False, (more,))


class TestIsWeb(unittest.TestCase):
    def told(self, kind, *things):
        for thing in things:
            with self.subTest(thing=thing):
                ahead = copy.deepcopy(thing)
                self.assertIs(is_web(thing), kind)
                self.assertEqual(thing, ahead)

    def test_one_to_three_rows(self):
        self.told(True, (ONE,), (TWO,), (ONE, TWO), (ONE, TWO, THREE), (THREE, THREE, THREE))
        self.told(False, (), (ONE, ONE, ONE, ONE), (ONE, TWO, THREE, THREE, ONE))

    def test_all_rows_read_the_same_signs(self):
        more = (one_state("abc", "x"),)
        self.told(True, (more,), (more, (one_state("abc", "abc"), one_state("abc", "y"))))
        self.told(False, (ONE, more), (more, ONE), (ONE, ONE, more), (ONE, more, ONE), (more, ONE, ONE))
        self.told(False, (ONE, (one_state("ac", "x"),)), ((one_state("a", "x"),), (one_state("b", "x"),)))

    def test_further_readers_may_read_other_signs(self):
        self.told(True, (TWO, (SHUT, one_state("bcde", "q"))))

    def test_each_part_is_a_row(self):
        for other in (PAIRS, (THREES, PAIRS), [PAIRS], (), None, 0, "ab", (PAIRS,) * 4, (None,)):
            self.told(False, (other,), (other, ONE), (ONE, other), (ONE, ONE, other), (ONE, other, ONE))

    def test_a_web_is_a_tuple(self):
        self.told(False, [ONE], [ONE, TWO], {0: ONE})

    def test_things_of_other_kinds(self):
        self.told(False, *OTHER_THINGS)

    def test_readers_and_rows_are_no_webs(self):
        self.told(False, PAIRS, ECHO, ONE, TWO, THREE, (ECHO, ECHO, ECHO))


class TestRowOn(unittest.TestCase):
    def test_one_reader(self):
        self.assertEqual(row_on(ONE, "aba"), ((1,), "dccc"))
        self.assertEqual(row_on(ONE, "aba", states=(1,)), ((0,), "cd"))
        self.assertEqual(row_on(ONE, "aba", states=None), ((1,), "dccc"))

    def test_two_readers(self):
        self.assertEqual(row_on(TWO, "ab"), ((1, 0), "zz"))
        self.assertEqual(row_on(TWO, "ab", states=(0, 1)), ((1, 1), "zz"))
        self.assertEqual(row_on(TWO, "ab", states=(1, 2)), ((0, 0), "zz"))
        self.assertEqual(row_on(TWO, "bba", states=(0, 0)), ((0, 0), "z"))

    def test_three_readers(self):
        self.assertEqual(row_on(THREE, "ab"), ((1, 0, 0), "yy"))
        self.assertEqual(row_on(THREE, "ab", states=(0, 1, 1)), ((1, 1, 0), "yy"))
        self.assertEqual(row_on(THREE, "a", states=(1, 0, 1)), ((1, 1, 1), ""))

    def test_the_empty_text(self):
        for row in (ONE, TWO, THREE):
            self.assertEqual(row_on(row, ""), ((0,) * len(row), ""))
            self.assertEqual(row_on(row, "", states=(1,) * len(row)), ((1,) * len(row), ""))

    def test_the_states_are_a_tuple_and_the_handed_in_ones_stay(self):
        states = (0, 1)
        self.assertIsInstance(row_on(TWO, "abab", states=states)[0], tuple)
        self.assertEqual(states, (0, 1))

    def test_no_ends_amid_a_text(self):
        self.assertEqual(row_on((one_state("a", "b", "", "b"), one_state("b", "c", "cc", "c")), "aa"), ((0, 0), ""))

    def test_it_goes_on_where_a_reader_would_not_let_by(self):
        self.assertEqual(row_on((SHUT, THREES), "aba"), ((0, 0), "zz"))

    def test_long_texts(self):
        long = one_state("a", "a", "aaa", "aaa")
        self.assertEqual(row_on((long, long, long), "a" * 200), ((0, 0, 0), "a" * 5400))
        self.assertEqual(row_telling((long, long, long), "a" * 200), "a" * 5439)

    def test_against_a_slow_way(self):
        for row in some_rows(6, 60):
            self.assertTrue(is_row(row))
            for text in all_texts("ab", 4):
                self.assertEqual(row_on(row, text), slow_row_on(row, text, (0,) * len(row)))
                last = tuple(len(reader[2]) - 1 for reader in row)
                self.assertEqual(row_on(row, text, states=last), slow_row_on(row, text, last))


class TestRowEnd(unittest.TestCase):
    def test_one_reader(self):
        self.assertEqual(row_end(ONE, (0,)), "")
        self.assertIsNone(row_end(ONE, (1,)))
        self.assertEqual([row_end((THREES,), (k,)) for k in range(3)], ["x", "y", "z"])

    def test_the_second_reader_reads_the_first_ones_end(self):
        # The end of the first one is read by the second one: what it tells of it goes ahead of its own end.
        first = one_state("a", "cd", "", "dc")
        self.assertEqual(row_end((first, THREES), (0, 0)), "z")
        self.assertEqual(row_end((first, THREES), (0, 1)), "zzx")
        self.assertEqual(row_end((first, THREES), (0, 2)), "zy")
        self.assertEqual(row_end((one_state("a", "cd", "", "ccc"), THREES), (0, 2)), "zzz")

    def test_the_third_reader_reads_that_and_the_second_ones_end(self):
        first = one_state("a", "cd", "", "d")
        third = one_state("xyz", "pq", "pq", "qp")
        self.assertEqual(row_end((first, THREES, third), (0, 0, 0)), "pqqp")
        self.assertEqual(row_end((first, THREES, third), (0, 2, 0)), "pqpqqp")
        self.assertEqual(row_end((first, THREES, SHY), (0, 1, 0)), "yyyy")

    def test_any_reader_may_not_let_it_by(self):
        self.assertIsNone(row_end((SHUT, THREES, SHY), (0, 1, 0)))
        shut_amid = ("cd", "xyz", ((((0, "z"), (0, "z")), None),))
        self.assertIsNone(row_end((one_state("a", "cd", "", "d"), shut_amid, SHY), (0, 0, 0)))
        self.assertIsNone(row_end((PAIRS, THREES, SHY), (0, 0, 0)))
        self.assertEqual(row_end((PAIRS, THREES, SHY), (0, 1, 1)), "yyy")
        self.assertIsNone(row_end((PAIRS, THREES, SHY), (1, 1, 1)))

    def test_an_end_may_lead_to_where_a_reader_lets_by_or_not(self):
        # The second one lets by just behind an odd number of signs.
        odd = ("c", "x", ((((1, ""),), None), (((0, ""),), "x")))
        self.assertIsNone(row_end((one_state("a", "c", "", ""), odd), (0, 0)))
        self.assertEqual(row_end((one_state("a", "c", "", "c"), odd), (0, 0)), "x")
        self.assertEqual(row_end((one_state("a", "c", "", "cc"), odd), (0, 1)), "x")
        self.assertIsNone(row_end((one_state("a", "c", "", "c"), odd), (0, 1)))

    def test_an_empty_end_is_none_of_none(self):
        self.assertEqual(row_end((ECHO,), (0,)), "")
        self.assertEqual(row_end((ECHO, ECHO, ECHO), (0, 0, 0)), "")

    def test_behind_a_text_it_is_what_the_telling_has_more(self):
        for row in some_rows(7, 60):
            for text in all_texts("ab", 4):
                states, told = row_on(row, text)
                end = row_end(row, states)
                self.assertEqual(None if end is None else told + end, slow_row_telling(row, text))


class TestRowTelling(unittest.TestCase):
    def test_one_reader_tells_as_it_does_alone(self):
        for text in all_texts("ab", 5):
            self.assertEqual(row_telling(ONE, text), slow_telling(PAIRS, text))

    def test_two_readers(self):
        self.assertEqual(row_telling(TWO, ""), "x")
        self.assertEqual(row_telling(TWO, "a"), "y")
        self.assertEqual(row_telling(TWO, "aaa"), "zx")
        self.assertEqual(row_telling(TWO, "bb"), "z")
        self.assertEqual(row_telling(TWO, "bab"), "zzx")

    def test_three_readers(self):
        self.assertEqual(row_telling(THREE, "a"), "yyy")
        self.assertEqual(row_telling(THREE, "bab" + "a"), "yyyyy")
        self.assertEqual(row_telling(THREE, "bab" + "bb"), "yyyyyy")

    def test_a_reader_does_not_let_by(self):
        self.assertIsNone(row_telling(ONE, "b"))
        self.assertIsNone(row_telling(TWO, "ab"))
        self.assertIsNone(row_telling(THREE, ""))
        self.assertIsNone(row_telling(THREE, "bab"))
        self.assertIsNone(row_telling((SHUT, THREES), "aa"))

    def test_a_reader_amid_the_row_does_not_let_by(self):
        # The second one does not let by where the last sign that it reads, ends told ahead too, is a c.
        no_c = ("cd", "xy", ((((1, "x"), (0, "y")), ""), (((1, "x"), (0, "y")), None)))
        row = (PAIRS, no_c, one_state("xy", "q", "q"))
        self.assertEqual(row_telling(row, "ba"), None)
        self.assertIsNone(row_telling(row, "abb"))
        self.assertEqual(row_telling(row, "bba"), "qqq")
        ends_with_d = (one_state("ab", "cd", "c", "d"), no_c, one_state("xy", "q", "q"))
        self.assertEqual(row_telling(ends_with_d, "ab"), "qqq")
        self.assertIsNone(row_telling((one_state("ab", "cd", "d", "c"),) + row[1:], "ab"))

    def test_against_a_slow_way(self):
        found = {True: 0, False: 0}
        for row in some_rows(8, 100):
            for text in all_texts("ab", 4):
                told = row_telling(row, text)
                self.assertEqual(told, slow_row_telling(row, text))
                found[told is None] += 1
        self.assertGreater(min(found.values()), 500)


class TestAsOne(unittest.TestCase):
    def test_a_row_of_one_reader(self):
        self.assertEqual(as_one(ONE), PAIRS)
        self.assertEqual(as_one((THREES,)), THREES)

    def test_states_that_no_text_comes_to_are_left_out(self):
        surplus = ("ab", "cd", PAIRS[2] + ((((0, "d"), (1, "c")), "d"),))
        self.assertEqual(as_one((surplus,)), PAIRS)

    def test_states_are_numbered_as_texts_come_to_them(self):
        # a comes to state 2, b to 3, aa to 1: these are 1, 2 and 3 then.
        reader = ("ab", "x", (
            (((2, "x"), (3, "")), ""),
            (((1, ""), (0, "xx")), "xxx"),
            (((1, ""), (0, "")), "x"),
            (((2, ""), (3, "")), None),
        ))
        self.assertEqual(as_one((reader,)), ("ab", "x", (
            (((1, "x"), (2, "")), ""),
            (((3, ""), (0, "")), "x"),
            (((1, ""), (2, "")), None),
            (((3, ""), (0, "xx")), "xxx"),
        )))

    def test_a_row_of_two_readers(self):
        # (0, 0); by a (0, 1), by b (1, 2); by aa (0, 2), by ab (1, 0); by aab (1, 1).
        self.assertEqual(as_one(TWO), ("ab", "xyz", (
            (((1, ""), (2, "")), "x"),
            (((3, ""), (4, "zz")), "y"),
            (((4, "zz"), (3, "")), None),
            (((0, "z"), (5, "zz")), "z"),
            (((5, ""), (0, "")), None),
            (((2, ""), (1, "")), None),
        )))

    def test_signs_and_tells_of_a_row_of_three(self):
        reader = as_one(THREE)
        self.assertEqual(reader[:2], ("ab", "y"))

    def test_the_ends_are_those_of_the_whole_row(self):
        first = one_state("a", "cd", "", "dc")
        self.assertEqual(as_one((first, THREES)), ("a", "xyz", ((((0, ""),), "z"),)))
        self.assertEqual(as_one((SHUT, THREES))[2][0][1], None)

    def test_it_may_have_more_than_a_reader(self):
        reader = as_one((in_a_ring(5), in_a_ring(6, "b")))
        self.assertEqual(len(reader[2]), 30)
        self.assertFalse(is_reader(reader))
        self.assertEqual(read_on(reader, "a" * 29), (29, "b" * 29))
        self.assertEqual(read_on(reader, "a" * 30), (0, "b" * 30))
        long = one_state("a", "a", "aaa", "aaa")
        self.assertEqual(as_one((long, long, long)), ("a", "a", ((((0, "a" * 27),), "a" * 39),)))

    def test_it_is_all_of_tuples_and_the_row_stays(self):
        row = copy.deepcopy(THREE)
        hash(as_one(row))
        self.assertEqual(row, THREE)

    def test_its_numbering_against_a_slow_way(self):
        for row in some_rows(9, 80):
            reader = as_one(row)
            come = []
            for text in all_texts("ab", 6):
                states, _ = slow_row_on(row, text, (0,) * len(row))
                if states not in come:
                    come.append(states)
                self.assertEqual(read_on(reader, text), (come.index(states), slow_row_on(row, text, come[0])[1]))
            if len(come) < 6:
                self.assertEqual(len(reader[2]), len(come))

    def test_it_reads_all_texts_as_the_row_does(self):
        for row in some_rows(10, 80):
            reader = as_one(row)
            for text in all_texts("ab", 6):
                self.assertEqual(telling(reader, text), slow_row_telling(row, text))


class TestHeardBy(unittest.TestCase):
    def test_one_row(self):
        self.assertEqual(heard_by((TWO,), "bab"), ("zzx",))
        self.assertEqual(heard_by((TWO,), "b"), (None,))

    def test_two_rows(self):
        self.assertEqual(heard_by((ONE, TWO), "bab"), ("ccc", "zzx"))
        self.assertEqual(heard_by((TWO, ONE), "bab"), ("zzx", "ccc"))

    def test_three_rows_with_none_for_those_who_do_not_let_by(self):
        self.assertEqual(heard_by((ONE, TWO, THREE), "bab"), ("ccc", "zzx", None))
        self.assertEqual(heard_by((ONE, (SHUT,), THREE), "a"), ("d", None, "yyy"))
        self.assertEqual(heard_by((THREE, (SHUT,), ONE), ""), (None, None, ""))
        self.assertEqual(heard_by((ONE, TWO, THREE), "ab"), (None, None, None))

    def test_the_same_row_twice(self):
        self.assertEqual(heard_by((ONE, ONE), "a"), ("d", "d"))

    def test_a_tuple_with_a_telling_for_each_row(self):
        for web in ((ONE,), (ONE, TWO), (ONE, TWO, THREE)):
            self.assertTrue(is_web(web))
            for text in all_texts("ab", 4):
                told = heard_by(web, text)
                self.assertIsInstance(told, tuple)
                self.assertEqual(told, tuple(slow_row_telling(row, text) for row in web))
