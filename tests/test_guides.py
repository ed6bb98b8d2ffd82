"""Guides: those that are told, what is one that holds, and what is written by them."""

import copy
import random
import unittest

from foeholes.errors import HoleError, NoGuide, NoWay, NoWord
from foeholes.foe import book
from foeholes.frames import is_frame, wrong_at
from foeholes.guides import guide, guided, is_guide
from foeholes.rows import is_web
from foeholes.standings import come_to, hole_leads, is_standing, piece_leads
from foeholes.winning import good, writer_wins
from foeholes.writing import price
from tests.frame_samples import ALL, ECHO, EMPTY, MIXED, OTHER_THINGS, lot_of_words, nested, slow_words
from tests.play_samples import some_plays
from tests.samples import one_state
from tests.test_foe import LOST_AT_ONCE, WON
from tests.test_winning import DOUBLES, FOUR, PAIRED, PARITY, SINGLE, TRAPPED, XS, at, of_one

# The one place amid a hole's text of ECHO, and the table that writes each word as it is.
HERE = (at(0), "")
SAME_ROW = (0, (HERE,), ((0, ((0, "a"),)), (0, ((0, "b"),))), (0, ""))
SAME = (SAME_ROW,)
# Of ECHO and ALL, with the pieces "a" and "b".
ONE = of_one(ECHO, [ALL], ("a", "b"), ("a", "b"))
ONE_GUIDE = {(0, at(0, 1)): ((0, ((at(0, 1), ""),), SAME_ROW[2], (0, "")),)}
# Tells xyz for a, yz for b, nothing for c.
THREE = ("abc", "xyz", ((((0, "xyz"), (0, "yz"), (0, "")), ""),))
XYZ = ("xyz", (((1, None, None), True), ((None, 2, None), False), ((None, None, 0), False)))
# a and c tell x, b and d tell y. Behind an a or b no y may be told next, behind a c or d no x.
AHEAD = ("abcd", "xy", (
    (((1, "x"), (1, "y"), (2, "x"), (2, "y")), ""),
    (((1, "x"), (3, "y"), (2, "x"), (3, "y")), ""),
    (((3, "x"), (1, "y"), (3, "x"), (2, "y")), ""),
    (((3, "x"), (3, "y"), (3, "x"), (3, "y")), None),
))


def changed_at(thing, path, part):
    """The thing with another part where a path of numbers leads."""
    if not path:
        return part
    at, *rest = path
    return thing[:at] + (changed_at(thing[at], rest, part),) + thing[at + 1:]


class TestGuide(unittest.TestCase):
    def told(self, web, frame):
        """A guide is told that holds, or none where the foe wins."""
        with self.subTest(web=web, frame=frame):
            self.assertTrue(is_web(web) and is_frame(web, frame))
            ahead = copy.deepcopy((web, frame))
            found = guide(web, frame)
            self.assertEqual((web, frame), ahead)
            if not writer_wins(web, frame):
                self.assertIs(found, None)
                self.assertIsNot(book(web, frame), None)
                return None
            self.assertIs(book(web, frame), None)
            self.assertIsInstance(found, dict)
            self.assertIs(is_guide(web, frame, found), True)
            again = copy.deepcopy(found)
            found["changed"] = ()
            found.clear()
            self.assertEqual(guide(web, frame), again)
            for i, here in again:
                self.assertIn(here, good(web, frame)[i])
            return again

    def test_where_the_writer_wins(self):
        for web, frame in WON + [ONE, of_one(THREE, [XYZ]), of_one(ECHO, [ALL, MIXED, ALL, EMPTY])]:
            self.assertIsNot(self.told(web, frame), None)

    def test_none_where_the_foe_wins(self):
        for web, frame in LOST_AT_ONCE + [PAIRED, FOUR, of_one(DOUBLES, [XS]), of_one(PARITY, [XS, XS])]:
            self.assertIs(self.told(web, frame), None)

    def test_frames_without_holes(self):
        self.assertEqual(self.told(*of_one(ECHO, [], ("a",), ("a",))), {})
        self.assertIs(self.told(*of_one(ECHO, [], ("a",), ("b",))), None)

    def test_by_chance(self):
        told = 0
        for web, frame in some_plays(131, 600):
            told += self.told(web, frame) is not None
        self.assertGreater(told, 100)

    def test_where_more_than_one_place_is_needed(self):
        found = self.told(*of_one(PARITY, [XS]))
        self.assertEqual(list(found), [(0, at(0))])
        self.assertEqual(max([len(places) for _, places, _, _ in found[0, at(0)]]), 2)

    def test_where_the_next_sign_has_to_be_known(self):
        found = self.told(*of_one(AHEAD, [("xy", (((0, 0), True),))]))
        self.assertEqual(max([len(places) for _, places, _, _ in found[0, at(0)]]), 2)
        self.told(*of_one(AHEAD, [("xy", (((1, 0), False), ((None, 0), True)))] * 3))


class TestIsGuide(unittest.TestCase):
    def told(self, due, web, frame, thing):
        with self.subTest(web=web, frame=frame, thing=thing):
            ahead = copy.deepcopy(thing)
            self.assertIs(is_guide(web, frame, thing), due)
            self.assertEqual(thing, ahead)

    def one(self, due, table, i=0, standing=at(0)):
        """Of ECHO and one hole with ALL."""
        self.told(due, *of_one(ECHO, [ALL]), {(i, standing): table})

    def test_one_by_hand(self):
        self.one(True, SAME)
        self.told(True, *ONE, ONE_GUIDE)
        self.told(True, *of_one(ECHO, [ALL, MIXED]), {(0, at(0)): SAME, (1, at(0)): (
            (0, (HERE,), ((1, ((0, "a"),)), (2, ((0, "b"),))), None),
            (1, (HERE,), (None, None), (0, "")),
            (2, (HERE,), ((2, ((0, "a"),)), None), (0, "")),
        )})

    def test_frames_without_holes(self):
        web, frame = of_one(ECHO, [], ("a",), ("a",))
        self.told(True, web, frame, {})
        for thing in ({(0, at(0)): SAME}, {(0, True): ()}, {0: ()}, [], (), None):
            self.told(False, web, frame, thing)
        web, frame = of_one(ECHO, [], ("a",), ("b",))
        self.told(False, web, frame, {})

    def test_none_in_it(self):
        for web, frame in [ONE, PAIRED, FOUR, TRAPPED] + LOST_AT_ONCE:
            self.told(False, web, frame, {})

    def test_another_frames_guide(self):
        self.told(False, *of_one(ECHO, [ALL]), ONE_GUIDE)
        self.told(False, *ONE, {(0, at(0)): SAME})
        self.told(False, *of_one(ECHO, [MIXED]), {(0, at(0)): SAME})
        self.told(False, *of_one(one_state("ab", "ab", "a"), [ALL]), {(0, at(0)): SAME})
        # To the end it leads no more.
        self.told(False, ONE[0], (("a", "b"), ONE[1][1], (("a", "a"),)), ONE_GUIDE)
        self.told(False, ONE[0], (("a", "bb"), ONE[1][1], (("a", "b"),)), ONE_GUIDE)
        # Piece 0 leads elsewhere, or to none.
        self.told(False, ONE[0], (("", "b"), ONE[1][1], (("", "b"),)), ONE_GUIDE)
        self.told(False, ONE[0], (("b", "b"), ONE[1][1], (("a", "b"),)), ONE_GUIDE)

    def test_a_pair_more_or_out(self):
        web, frame = of_one(ECHO, [ALL, ALL], ("", "b", ""), ("", "b", ""))
        second = ((0, ((at(0, 1), ""),), SAME_ROW[2], (0, "")),)
        found = {(0, at(0)): SAME, (1, at(0, 1)): second}
        self.told(True, web, frame, found)
        self.told(False, web, frame, {(0, at(0)): SAME})
        self.told(False, web, frame, {(1, at(0, 1)): second})
        self.told(False, web, frame, found | {(2, at(0)): SAME})
        self.told(False, web, frame, found | {(1, at(0)): SAME})
        # One that is never come to is looked at, too.
        reader = ("a", "a", ((((0, "a"),), ""), (((0, "a"),), ""), (((2, "a"),), None)))
        web, frame = of_one(reader, [("a", (((0,), True),))])
        row = (0, (HERE,), ((0, ((0, "a"),)),), (0, ""))
        self.told(True, web, frame, {(0, at(0)): (row,)})
        more = (0, ((at(1), ""),), ((1, ((0, "a"),)),), (0, ""))
        behind = changed_at(row, (2, 0, 0), 1)
        self.told(True, web, frame, {(0, at(0)): (row,), (0, at(1)): (more, behind)})
        self.told(False, web, frame, {(0, at(1)): (more, behind)})
        self.told(False, web, frame, {(0, at(0)): (row,), (0, at(1)): (more, row)})
        worse = (0, ((at(2), ""),), ((0, ((0, "a"),)),), (0, ""))
        self.told(False, web, frame, {(0, at(0)): (row,), (0, at(2)): (worse,)})

    def test_keys_that_are_none(self):
        for i, standing in ((1, at(0)), (-1, at(0)), (False, at(0)), (None, at(0)), ("0", at(0)), (10 ** 59, at(0)),
                            (0, at(1)), (0, at(0, 1)), (0, at(False)), (0, at(0, False)), (0, None), (0, 0),
                            (at(0), 0)):
            self.one(False, SAME, i, standing)
            if (i, standing) != (0, at(0)):
                self.told(False, *of_one(ECHO, [ALL]), {(0, at(0)): SAME} | {(i, standing): SAME})
        for key in (at(0), (0,), (0, at(0), 0), 0, "0", None, True, ()):
            self.told(False, *of_one(ECHO, [ALL]), {(0, at(0)): SAME} | {key: SAME})
            self.told(False, *of_one(ECHO, [ALL]), {key: SAME})

    def test_tables_that_are_none(self):
        for thing in OTHER_THINGS + (nested(20), SAME_ROW, list(SAME), (list(SAME_ROW),), SAME_ROW[:3], (SAME_ROW[:3],),
                                     (SAME_ROW + (None,),), {0: SAME_ROW}, (SAME_ROW, None), (SAME_ROW, ())):
            self.one(False, thing)

    def test_parts_of_other_kinds(self):
        paths = [(0, 0), (0, 1), (0, 1, 0), (0, 1, 0, 0), (0, 1, 0, 1), (0, 2), (0, 2, 0), (0, 2, 0, 0), (0, 2, 0, 1),
                 (0, 2, 0, 1, 0), (0, 2, 0, 1, 0, 0), (0, 2, 0, 1, 0, 1), (0, 2, 1), (0, 3), (0, 3, 0), (0, 3, 1)]
        for path in paths:
            part = SAME
            for k in path:
                part = part[k]
            for thing in OTHER_THINGS + (nested(20), [part], (part, part), {"a": part}):
                if isinstance(thing, bool) or thing != part:
                    self.one(False, changed_at(SAME, path, thing))
            if isinstance(part, tuple):
                for thing in (list(part), part + (0,), part[:-1]):
                    self.one(False, changed_at(SAME, path, thing))

    def test_states(self):
        for state in (1, -1, True, False, None, "0"):
            self.one(False, changed_at(SAME, (0, 0), state))

    def test_the_first_row(self):
        # Its state is 0, and it has just the place where the hole's text begins.
        web, frame = of_one(ECHO, [("ab", (((1, 1), True), ((1, 1), True)))])
        ways = ((1, ((0, "a"),)), (1, ((0, "b"),)))
        first, second = (0, (HERE,), ways, (0, "")), (1, (HERE,), ways, (0, ""))
        self.told(True, web, frame, {(0, at(0)): (first, second)})
        self.told(True, web, frame, {(0, at(0)): (first, second, second)})
        self.told(False, web, frame, {(0, at(0)): (second, second)})
        self.told(False, web, frame, {(0, at(0)): (second, first)})
        self.told(False, web, frame, {(0, at(0)): (first,)})
        for places in ((), (HERE, (at(0), "a")), ((at(0), "a"),), ((at(0), "a"), HERE)):
            self.told(False, web, frame, {(0, at(0)): (changed_at(first, (1,), places), second)})
        other = of_one(("ab", "ab", (ECHO[2][0], (((0, "a"), (0, "b")), ""))), [ALL])
        self.told(True, *other, {(0, at(0)): SAME})
        self.told(False, *other, {(0, at(0)): ((0, ((at(1), ""),), SAME_ROW[2], (0, "")),)})

    def test_a_row_that_nothing_leads_to(self):
        self.one(True, SAME + SAME)
        self.one(True, SAME + ((0, (HERE, (at(0), "a")), ((0, ((0, "a"),)), (0, ((0, "b"),))), (0, "")),))
        # It has to be one all the same.
        self.one(False, SAME + (changed_at(SAME_ROW, (3,), None),))
        self.one(False, SAME + (changed_at(SAME_ROW, (0,), 1),))
        self.one(False, SAME + (changed_at(SAME_ROW, (1,), ((at(1), ""),)),))
        self.one(False, SAME + (changed_at(SAME_ROW, (1,), ((at(0), "c"),)),))
        self.one(False, SAME + (changed_at(SAME_ROW, (2, 0), None),))

    def test_places(self):
        places = (HERE, (at(0), "ab"))
        more = (0, places, SAME_ROW[2], (0, ""))
        self.one(True, SAME + (more,))
        for part, due in (((at(0), "a" * 27), True), ((at(0), "a" * 28), False), ((at(0), "c"), False), (HERE, False),
                          ((at(0), None), False), ((at(0), ("a",)), False), ((at(1), "a"), False), (at(0), False),
                          ((at(0, 1), "a"), False), ((at(0), "a", "a"), False), ((at(0),), False),
                          ([at(0), "a"], False), ((at(False), "a"), False), (None, False), ("", False)):
            self.one(due, SAME + (changed_at(more, (1, 1), part),))
        self.one(False, SAME + (changed_at(more, (1,), list(places)),))

    def test_a_place_that_is_not_come_to_by_its_text(self):
        for text in ("b", "", "aa", "ab", "c", "A", None, 0, ["a"], ("a",)):
            self.one(False, changed_at(SAME, (0, 2, 0, 1, 0, 1), text))
        for place in (1, -1, True, False, None, "0"):
            self.one(False, changed_at(SAME, (0, 2, 0, 1, 0, 0), place))
        # The standing is another one.
        reader = ("ab", "ab", ((((0, "a"), (1, "b")), ""), (((1, "a"), (1, "b")), "")))
        self.told(False, *of_one(reader, [ALL]), {(0, at(0)): SAME})
        self.told(True, *of_one(reader, [ALL]), {(0, at(0)): (
            (0, (HERE,), ((0, ((0, "a"),)), (1, ((0, "b"),))), (0, "")),
            (0, ((at(1), ""),), ((1, ((0, "a"),)), (1, ((0, "b"),))), (0, "")),
        )})

    def test_what_is_told_beyond_a_word(self):
        web, frame = of_one(THREE, [XYZ])
        self.assertTrue(writer_wins(web, frame))
        table = (
            (0, (HERE,), ((1, ((0, "a"),)), None, None), (0, "")),
            (1, ((at(0), "yz"),), (None, (2, ((0, ""),)), None), None),
            (2, ((at(0), "z"),), (None, None, (0, ((0, ""),))), None),
        )
        self.told(True, web, frame, {(0, at(0)): table})
        # A c tells nothing; a b amid it, or an a at its end, tells too much; an end is due behind all words alone.
        for path, part, due in (((1, 2, 1, 1, 0, 1), "c", True), ((0, 3, 1), "cc", True),
                                ((0, 2, 0, 1, 0, 1), "cca", True), ((0, 2, 0, 1, 0, 1), "b", False),
                                ((1, 2, 1, 1, 0, 1), "b", False),
                                ((1, 1, 0, 1), "y", False), ((1, 1, 0, 1), "yzx", False), ((1, 3), (0, ""), False),
                                ((0, 3), None, False), ((0, 3, 1), "a", False)):
            self.told(due, web, frame, {(0, at(0)): changed_at(table, path, part)})

    def test_text_read_behind_what_is_told_beyond(self):
        # yzyz alone, of which a b tells a half: here both are read ahead of the second sign.
        lot = ("xyz", (((None, 1, None), False), ((None, None, 2), False), ((None, 3, None), False),
                       ((None, None, 4), False), ((None, None, None), True)))
        reader = ("abc", "xyz", ((((0, "x"), (0, "yz"), (0, "z")), ""),))
        web, frame = of_one(reader, [lot])
        tables = (
            (0, (HERE,), (None, (1, ((0, "b"),)), None), None),
            (1, ((at(0), "z"),), (None, None, (2, ((0, "b"),))), None),
            (2, ((at(0), "yz"),), (None, (3, ((0, ""),)), None), None),
            (3, ((at(0), "z"),), (None, None, (4, ((0, ""),))), None),
            (4, (HERE,), (None, None, None), (0, "")),
        )
        self.told(True, web, frame, {(0, at(0)): tables})
        self.assertEqual(guided(web, frame, {(0, at(0)): tables}, 0, at(0), "yzyz"), "bb")
        self.told(False, web, frame, {(0, at(0)): changed_at(tables, (2, 1, 0, 1), "zyz")})

    def test_froms_too_short_or_too_long(self):
        places = (HERE, (at(0), "a"))
        more = (0, places, ((1, ((0, "a"), (0, "aa"))), (1, ((0, "b"), (0, "ba")))), (0, ""))
        first = (0, (HERE,), more[2], (0, ""))
        self.one(True, (first, more))
        for froms in ((), ((0, "a"),), ((0, "a"), (0, "aa"), (0, "aa")), ((0, "aa"), (0, "a")), [(0, "a"), (0, "aa")],
                      ((0, "a"), None), ((0, "a"), [0, "aa"]), ((0, "a"), (0,)), ((0, "a"), (0, "aa", ""))):
            self.one(False, (changed_at(first, (2, 0, 1), froms), more))
        self.one(True, (first, changed_at(more, (2, 0, 1), ((1, ""), (1, "a")))))
        self.one(False, (first, changed_at(more, (2, 0, 1), ((1, "a"), (1, "a")))))
        self.one(False, (first, changed_at(more, (2, 0, 1), ((1, ""), (2, "a")))))

    def test_rows_of_another_state(self):
        table = (
            (0, (HERE,), ((1, ((0, "a"),)), (2, ((0, "b"),))), None),
            (1, (HERE,), (None, None), (0, "")),
            (2, (HERE,), ((2, ((0, "a"),)), None), (0, "")),
        )
        web, frame = of_one(ECHO, [MIXED])
        self.told(True, web, frame, {(0, at(0)): table})
        for row in (0, 2, 3, -1, True, None, "1"):
            self.told(False, web, frame, {(0, at(0)): changed_at(table, (0, 2, 0, 0), row)})
        self.told(False, web, frame, {(0, at(0)): changed_at(table, (0, 3), (0, ""))})
        self.told(False, web, frame, {(0, at(0)): changed_at(table, (1, 2, 0), (2, ((0, "a"),)))})
        self.told(False, web, frame, {(0, at(0)): changed_at(table, (2, 2, 0), None)})
        self.told(False, web, frame, {(0, at(0)): changed_at(table, (1, 3), None)})
        self.told(False, web, frame, {(0, at(0)): table[:2]})

    def test_ways_behind_which_no_word_ends(self):
        web, frame = of_one(ECHO, [("ab", (((0, 1), True), ((1, 1), False)))])
        row = (0, (HERE,), ((0, ((0, "a"),)), None), (0, ""))
        self.told(True, web, frame, {(0, at(0)): (row,)})
        lost = (1, (HERE,), ((1, ((0, "a"),)), (1, ((0, "b"),))), None)
        self.told(False, web, frame, {(0, at(0)): (changed_at(row, (2, 1), (1, ((0, "b"),))), lost)})
        self.told(False, web, frame, {(0, at(0)): (row, lost)})
        self.told(True, web, frame, {(0, at(0)): (row, changed_at(lost, (2,), (None, None)))})
        self.told(False, web, frame, {(0, at(0)): (row, changed_at(lost, (2,), (None, None))[:3] + ((0, ""),))})

    def test_more_or_fewer_ways(self):
        for ways in ((), SAME_ROW[2][:1], SAME_ROW[2] + (None,), SAME_ROW[2] * 2, list(SAME_ROW[2]), (None, None)):
            self.one(False, changed_at(SAME, (0, 2), ways))

    def test_ends(self):
        for end in (None, (0, "a"), (0, "c"), (1, ""), (-1, ""), (False, ""), (True, ""), (0, None), (0,), (0, "", ""),
                    [0, ""], "", ("", 0), {0: ""}):
            self.one(False, changed_at(SAME, (0, 3), end))
        # The place's second part isn't "".
        more = (0, (HERE, (at(0), "a")), SAME_ROW[2], (0, ""))
        self.one(True, SAME + (more,))
        self.one(False, SAME + (changed_at(more, (3,), (1, "")),))
        # A text that tells nothing leads on to where all is won, and back.
        reader = ("ab", "a", ((((0, "a"), (1, "")), ""), (((0, "a"), (0, "")), None)))
        web, frame = of_one(reader, [("a", (((0,), True),))])
        row = (0, (HERE,), ((0, ((0, "a"),)),), (0, ""))
        for text, due in (("", True), ("bb", True), ("bbbb", True), ("b", False), ("bbb", False), ("a", False)):
            self.told(due, web, frame, {(0, at(0)): (changed_at(row, (3, 1), text),)})

    def test_an_end_that_leads_to_a_standing_that_is_not_in_it(self):
        web, frame = TRAPPED
        second = ((0, ((at(0, 1), ""),), SAME_ROW[2], (0, "")),)
        found = {(0, at(0)): SAME, (1, at(0, 1)): second}
        self.told(True, web, frame, found)
        self.told(False, web, frame, {(0, at(0)): SAME})
        # By a c the first text leads to another standing, from which nothing is won.
        trapped = ((0, (HERE,), ((1, ((0, "c"),)), (0, ((0, "b"),))), (0, "")),
                   (0, ((at(1), ""),), ((1, ((0, "a"),)), (1, ((0, "b"),))), (0, "")))
        self.assertTrue(is_standing(web, frame, 1, at(1, 1)))
        self.told(False, web, frame, found | {(0, at(0)): trapped})

    def test_a_text_by_which_another_listener_parts(self):
        web = ((one_state("ab", "x", "x"),), (("ab", "u", ((((0, ""), (0, "u")), ""),)),))
        frame = (("", "b"), ((0, XS),), (("", "x"), ("u",)))
        here = come_to(web, frame)[0][0]
        row = (0, ((here, ""),), ((0, ((0, "a"),)),), (0, ""))
        self.told(True, web, frame, {(0, here): (row,)})
        self.told(False, web, frame, {(0, here): (changed_at(row, (2, 0, 1, 0, 1), "b"),)})
        # It goes on by one b: then the piece behind leads to no end.
        behind = (here[0], (0, 1))
        more = (0, ((behind, ""),), ((1, ((0, "a"),)),), (0, ""))
        self.assertTrue(is_standing(web, frame, 0, behind))
        self.told(False, web, frame, {(0, here): (changed_at(row, (2, 0), (1, ((0, "b"),))), more)})
        frame = (("", ""), ((0, XS),), (("", ""), ("u",)))
        self.assertFalse(writer_wins(web, frame))
        frame = (("", ""), ((0, ("x", (((1,), False), ((1,), True)))),), (("", ""), ("u",)))
        found = {(0, here): (
            (0, ((here, ""),), ((1, ((0, "b"),)),), None), (1, ((behind, ""),), ((1, ((0, "a"),)),), (0, "")),
        )}
        self.told(True, web, frame, found)
        self.told(False, web, frame, {(0, here): changed_at(found[0, here], (1, 2, 0, 1, 0, 1), "b")})
        self.told(False, web, frame, {(0, here): changed_at(found[0, here], (0, 2, 0, 1, 0, 1), "a")})

    def test_things_of_other_kinds(self):
        for web, frame in [ONE, TRAPPED, PAIRED, of_one(ECHO, [])]:
            for thing in OTHER_THINGS + (nested(20), [(0, at(0))], (((0, at(0)), SAME),), {"a": SAME}, {(): ()}):
                self.told(thing == {} and not frame[1], web, frame, thing)

    def test_what_is_told_with_each_part_changed(self):
        chance = random.Random(132)
        tried = 0
        for web, frame in some_plays(133, 250):
            found = guide(web, frame)
            for key in found or {}:
                table = found[key]
                self.told(False, web, frame, {other: found[other] for other in found if other != key})
                self.told(False, web, frame, found | {key: ()})
                self.told(True, web, frame, found | {key: table + table[-1:]})
                k = chance.randrange(len(table))
                state, places, ways, end = table[k]
                other_end = (0, "") if end is None else None
                for row in ((state, places, ways), (state, places, ways, end, end), (True, places, ways, end),
                            (state + 9, places, ways, end), (state, places + places, ways, end),
                            (state, places, ways + (None,), end), (state, places, ways, other_end)):
                    tried += 1
                    self.told(False, web, frame, found | {key: table[:k] + (row,) + table[k + 1:]})
                for j, way in enumerate(ways):
                    other = (0, ()) if way is None else None
                    self.told(False, web, frame, found | {key: changed_at(table, (k, 2, j), other)})
        self.assertGreater(tried, 500)


class TestGuided(unittest.TestCase):
    def refused(self, refusal, fields, web, frame, found, i, standing, word):
        with self.subTest(web=web, frame=frame, guide=found, i=i, standing=standing, word=word):
            ahead = copy.deepcopy((found, standing, word))
            with self.assertRaises(HoleError) as caught:
                guided(web, frame, found, i, standing, word)
            self.assertIs(type(caught.exception), refusal)
            self.assertEqual(vars(caught.exception), fields)
            self.assertEqual((found, standing, word), ahead)

    def goes_on(self, web, frame, found, i, here, word):
        """What is written makes just the word heard, and leads on into the guide or to the end; told is where to."""
        with self.subTest(web=web, frame=frame, i=i, here=here, word=word):
            ahead = copy.deepcopy((web, frame, found, here))
            text = guided(web, frame, found, i, here, word)
            self.assertEqual((web, frame, found, here), ahead)
            led = hole_leads(web, frame, i, here, text)
            self.assertEqual(led[0], word)
            self.assertGreaterEqual(len(text), price(web, frame, i, here, word))
            after = piece_leads(web, frame, i + 1, led[1])
            self.assertTrue(after is True if i + 1 == len(frame[1]) else (i + 1, after) in found)
            return text, after

    def test_each_word_to_some_length(self):
        written = 0
        for web, frame in some_plays(134, 400):
            found = guide(web, frame)
            for i, here in found or {}:
                for word in slow_words(frame[1][i][1], 4):
                    written += 1
                    self.goes_on(web, frame, found, i, here, word)
        self.assertGreater(written, 500)

    def test_long_words(self):
        web, frame = of_one(PARITY, [XS])
        found = guide(web, frame)
        for many in (0, 1, 2, 7, 30, 59, 60):
            self.assertEqual(self.goes_on(web, frame, found, 0, at(0), "x" * many)[0],
                             "b" * (many % 2) + "a" * (many - many % 2))
        web, frame = ONE
        self.assertEqual(self.goes_on(web, frame, guide(web, frame), 0, at(0, 1), "ab" * 30)[0], "ab" * 30)

    def test_from_hole_to_hole_all_is_well(self):
        chance = random.Random(135)
        filled = 0
        for web, frame in some_plays(136, 400):
            found = guide(web, frame)
            if found is None:
                continue
            for _ in range(3):
                here = piece_leads(web, frame, 0, None)
                words, texts = [], []
                for i, (_, lot) in enumerate(frame[1]):
                    words.append(chance.choice(slow_words(lot, 5)))
                    text, here = self.goes_on(web, frame, found, i, here, words[-1])
                    texts.append(text)
                self.assertIs(wrong_at(web, frame, tuple(words), tuple(texts)), None)
                filled += 1
        self.assertGreater(filled, 300)

    def test_a_guide_made_by_hand_writes_by_its_own_rows(self):
        reader = ("abc", "x", ((((0, "x"), (0, "x"), (0, "")), ""),))
        web, frame = of_one(reader, [XS])
        found = {(0, at(0)): (
            (0, (HERE,), ((1, ((0, "cb"),)),), (0, "cc")),
            (0, (HERE,), ((2, ((0, "a"),)),), (0, "c")),
            (0, (HERE,), ((1, ((0, "ca"),)),), (0, "")),
        )}
        self.assertTrue(is_guide(web, frame, found))
        for word, text in (("", "cc"), ("x", "cbc"), ("xx", "cba"), ("xxx", "cbacac"), ("xxxx", "cbacaa")):
            self.assertEqual(self.goes_on(web, frame, found, 0, at(0), word)[0], text)
        # The second row's end is read from another place, two signs ahead.
        found = {(0, at(0)): (
            (0, (HERE,), ((1, ((0, "abb"), (0, "b"))),), (0, "")),
            (0, ((at(0), "xx"), HERE), ((2, ((0, ""), (1, "a"))),), (1, "c")),
            (0, ((at(0), "x"), HERE), ((3, ((0, ""), (1, "aca"))),), (1, "cc")),
            (0, (HERE, (at(0), "x")), ((3, ((1, "c"), (1, "a"))),), (0, "")),
        )}
        self.assertTrue(is_guide(web, frame, found))
        for word, text in (("", ""), ("x", "bc"), ("xx", "bacc"), ("xxx", "abb"), ("xxxx", "baacac")):
            self.assertEqual(self.goes_on(web, frame, found, 0, at(0), word)[0], text)

    def test_refusals_in_order(self):
        web, frame = TRAPPED
        found = guide(web, frame)
        for thing in OTHER_THINGS + (nested(20), {(0, at(0)): SAME}, found | {(1, at(1, 1)): SAME}, None):
            self.refused(NoGuide, {}, web, frame, thing, 0, at(0), "a")
            self.refused(NoGuide, {}, web, frame, thing, 0, None, None)
        self.assertNotIn((1, at(1, 1)), found)
        for standing in OTHER_THINGS + (nested(20), at(1, 1), at(0, 2), at(True), at(0, True), at(1), [((0,),), (0,)]):
            self.refused(NoWay, {}, web, frame, found, 1, standing, "a")
            self.refused(NoWay, {}, web, frame, found, 1, standing, None)
        for i in (1, 2, -1, True, False, None, "0", (0,), [0]):
            self.refused(NoWay, {}, web, frame, found, i, at(0), "a")
            self.refused(NoWay, {}, web, frame, found, i, at(0), None)
        for word in OTHER_THINGS + (nested(20), "c", "abc", ["a"], ("a", "b")):
            if word != "":
                self.refused(NoWord, {"hole": 0}, web, frame, found, 0, at(0), word)
                self.refused(NoWord, {"hole": 1}, web, frame, found, 1, at(0, 1), word)
        self.assertEqual(guided(web, frame, found, 0, at(0), "ab"), "ab")

    def test_frames_without_holes(self):
        web, frame = of_one(ECHO, [], ("a",), ("a",))
        self.refused(NoWay, {}, web, frame, {}, 0, at(0), "")
        self.refused(NoGuide, {}, web, frame, None, 0, at(0), "")

    def test_words_of_a_lot_alone(self):
        web, frame = of_one(ECHO, [lot_of_words("ab", ["a", "ba"])])
        found = guide(web, frame)
        for word in ("a", "ba"):
            self.assertEqual(self.goes_on(web, frame, found, 0, at(0), word)[0], word)
        for word in ("", "b", "ab", "baa"):
            self.refused(NoWord, {"hole": 0}, web, frame, found, 0, at(0), word)
        web, frame = SINGLE
        found = guide(web, frame)
        here = good(web, frame)[0][0]
        self.assertEqual(self.goes_on(web, frame, found, 0, here, "bab")[0], "bab")


if __name__ == "__main__":
    unittest.main()
