"""The shelf: its deeds, refusals and what is undone, what it tells, and what was looked at."""

import copy
import random
import unittest

from foeholes.errors import Full, Held, HoleError, NoFrame, NoName, NoReader, NoWay, NoWeb, NoWord, Taken
from foeholes.foe import book
from foeholes.frames import is_frame
from foeholes.rows import is_web
from foeholes.shelf import Shelf
from foeholes.winning import writer_wins
from foeholes.writing import Writer
from tests.frame_samples import ALL, ECHO, EMPTY, MIXED, ONLY_A, OTHER_THINGS, QUIET, TURNS, TWOS, nested
from tests.samples import PAIRS, SHUT, THREES, one_state

# Won by ECHO, lost by all that can't echo b's; of a web of one row whose last reader tells a's and b's.
PLAIN = (("a", "b"), ((0, ALL),), (("a", "b"),))
# The same with piece 1 a.
OTHER = (("a", "a"), ((0, ALL),), (("a", "b"),))
# Of any web of one row.
BARE = (("",), (), (("",),))
BOTH = (("a", "b"), ((0, ALL),), (("a", "b"), ("dd",)))
# Goes along with ECHO, as does it with this; they are unlike.
ECHO_2 = ("ab", "ab", ((((1, "a"), (0, "b")), ""), (((0, "a"), (1, "b")), "")))
# Tells an a for each sign.
ONLY_AS = one_state("ab", "ab", "a")
NO_NAMES = OTHER_THINGS + (nested(20), "abcdefghi", "A", "aB", "a b", "a1", "1", " a", "a ", "_", "-", "a\n", "\n",
                           "\u00e4", "\u0430", ("a",), ["a"], {"a": "a"}, b"a")
NAMES = ("a", "b", "abcdefgh", "z", "echo", "zzzzzzzz")


def filled(readers=(), frames=()):
    """A shelf of these readers and frames: pairs, and names, rows and frames."""
    shelf = Shelf()
    for name, reader in readers:
        shelf.put(name, reader)
    for name, rows, frame in frames:
        shelf.lay(name, rows, frame)
    return shelf


def some_shelf():
    """Two readers that are named by frames, one that isn't, three frames."""
    shelf = filled([("echo", ECHO), ("twos", TWOS), ("only", ONLY_A)],
                   [("plain", (("echo",),), PLAIN), ("both", (("echo",), ("echo", "twos")), BOTH),
                    ("bare", (("twos",),), BARE)])
    shelf.looked()
    return shelf


def all_told(shelf):
    """All that the shelf tells, but for what was looked at."""
    return (shelf.readers(), shelf.frames(), [shelf.reader(name) for name in shelf.readers()],
            [shelf.web_and_frame(name) for name in shelf.frames()])


class TestCase(unittest.TestCase):
    def refused(self, refusal, fields, shelf, deed, *things):
        """The deed is refused, and nothing is changed by that; nothing was to be told as looked at."""
        with self.subTest(deed=deed, things=things):
            ahead = (all_told(shelf), copy.deepcopy(things))
            with self.assertRaises(HoleError) as caught:
                getattr(shelf, deed)(*things)
            self.assertIs(type(caught.exception), refusal)
            self.assertEqual(vars(caught.exception), fields)
            self.assertEqual((all_told(shelf), things), ahead)
            self.assertEqual(shelf.looked(), [])

    def undone(self, shelf, words):
        """These words are told, the last one None."""
        self.assertEqual([shelf.undo() for _ in words], list(words))


class TestPut(TestCase):
    def test_names(self):
        for name in NAMES:
            shelf = Shelf()
            self.assertIs(shelf.put(name, ECHO), None)
            self.assertEqual(shelf.readers(), [name])
            self.assertEqual(shelf.reader(name), ECHO)

    def test_no_names(self):
        for name in NO_NAMES:
            if name not in ("abc",):
                self.refused(NoName, {"name": name}, Shelf(), "put", name, ECHO)

    def test_taken(self):
        shelf = some_shelf()
        for name in ("echo", "twos", "only", "plain", "both", "bare"):
            self.refused(Taken, {"name": name}, shelf, "put", name, ECHO)

    def test_full(self):
        shelf = Shelf()
        for name in "abcdefg":
            shelf.put(name, ECHO)
        shelf.put("h", TWOS)
        self.assertEqual(shelf.readers(), list("abcdefgh"))
        self.refused(Full, {"most": 8}, shelf, "put", "i", ECHO)
        shelf.drop("c")
        shelf.put("i", ECHO)
        self.assertEqual(shelf.readers(), list("abdefghi"))

    def test_no_reader(self):
        for thing in OTHER_THINGS + (nested(20), list(ECHO), (ECHO,), ECHO[:2], ("ab", "ab", ()),
                                     ("ba", "ab", ECHO[2])):
            self.refused(NoReader, {}, Shelf(), "put", "a", thing)

    def test_the_order_of_refusals(self):
        shelf = filled([(name, ECHO) for name in "abcdefgh"])
        self.refused(NoName, {"name": "I"}, shelf, "put", "I", None)
        self.refused(Taken, {"name": "a"}, shelf, "put", "a", None)
        self.refused(Full, {"most": 8}, shelf, "put", "i", None)
        shelf = filled([("a", ECHO)])
        self.refused(NoName, {"name": ""}, shelf, "put", "", None)
        self.refused(Taken, {"name": "a"}, shelf, "put", "a", None)
        self.refused(NoReader, {}, shelf, "put", "b", None)

    def test_what_is_handed_in_stays(self):
        reader = copy.deepcopy(ECHO)
        shelf = filled([("a", reader)])
        self.assertEqual(reader, ECHO)
        name = ["a"]
        try:
            shelf.put(name, ECHO)
        except NoName as told:
            name.append("b")
            self.assertEqual(told.name, ["a"])


class TestExchange(TestCase):
    def test_ordinary(self):
        shelf = some_shelf()
        self.assertIs(shelf.exchange("only", SHUT), None)
        self.assertEqual(shelf.reader("only"), SHUT)
        shelf.exchange("echo", ECHO_2)
        self.assertEqual(shelf.web_and_frame("plain"), (((ECHO_2,),), PLAIN))
        self.assertEqual(shelf.web_and_frame("both"), (((ECHO_2,), (ECHO_2, TWOS)), BOTH))
        self.assertEqual(shelf.web_and_frame("bare"), (((TWOS,),), BARE))

    def test_names_that_are_not_there(self):
        shelf = some_shelf()
        for name in ("echos", "plain", "both", "bare", "ech") + NO_NAMES:
            self.refused(NoName, {"name": name}, shelf, "exchange", name, ECHO)
            self.refused(NoName, {"name": name}, shelf, "exchange", name, None)

    def test_no_reader(self):
        shelf = some_shelf()
        for thing in OTHER_THINGS + (nested(20), (ECHO,)):
            self.refused(NoReader, {}, shelf, "exchange", "echo", thing)
            self.refused(NoReader, {}, shelf, "exchange", "only", thing)

    def test_held_where_rows_would_make_no_web(self):
        shelf = some_shelf()
        # It reads other signs than the other row's first one, or tells what the next one doesn't read.
        self.refused(Held, {"name": "apart"}, self.with_rows_apart(), "exchange", "a", one_state("a", "ab"))
        self.refused(Held, {"name": "both"}, shelf, "exchange", "echo", one_state("ab", "abc"))
        # All by themselves make a web.
        shelf.exchange("twos", one_state("ab", "d"))

    def with_rows_apart(self):
        """A shelf with one frame of two rows."""
        shelf = filled([("a", ECHO), ("b", ECHO)],
                       [("apart", (("a",), ("b",)), (("",), (), (("",), ("",))))])
        shelf.looked()
        return shelf

    def test_held_where_the_frame_would_be_none(self):
        shelf = some_shelf()
        # A word's signs are no more told; a piece's are no more read; what is due isn't told.
        self.refused(Held, {"name": "both"}, shelf, "exchange", "echo", one_state("ab", "a"))
        self.refused(Held, {"name": "both"}, shelf, "exchange", "twos", one_state("ab", "x"))
        shelf.drop("both")
        shelf.looked()
        self.refused(Held, {"name": "plain"}, shelf, "exchange", "echo", one_state("ab", "a"))
        self.refused(Held, {"name": "plain"}, shelf, "exchange", "echo", one_state("a", "ab"))
        shelf.exchange("echo", one_state("abc", "abc"))
        shelf.exchange("twos", one_state("ef", "gh"))
        self.assertEqual(shelf.web_and_frame("bare"), (((one_state("ef", "gh"),),), BARE))

    def test_held_by_the_first_one_sorted(self):
        shelf = filled([("a", ECHO)])
        for name in ("dd", "c", "ca", "zz"):
            shelf.lay(name, (("a",),), PLAIN)
        shelf.lay("b", (("a",),), BARE)
        shelf.looked()
        self.refused(Held, {"name": "c"}, shelf, "exchange", "a", SHUT)
        self.refused(Held, {"name": "b"}, shelf, "drop", "a")

    def test_no_reader_goes_ahead_of_held(self):
        shelf = some_shelf()
        self.refused(NoReader, {}, shelf, "exchange", "echo", SHUT[:2])
        self.refused(Held, {"name": "both"}, shelf, "exchange", "echo", SHUT)

    def test_a_reader_several_times_in_one_frames_rows(self):
        shelf = filled([("a", ECHO), ("b", ONLY_A)])
        rows = (("a", "a", "a"), ("a", "b"), ("a",))
        frame = (("ab",), (), (("ab",), ("c",), ("ab",)))
        shelf.lay("f", rows, frame)
        self.assertEqual(shelf.web_and_frame("f"), (((ECHO, ECHO, ECHO), (ECHO, ONLY_A), (ECHO,)), frame))
        self.assertTrue(shelf.writer_wins("f"))
        shelf.exchange("a", ECHO_2)
        self.assertEqual(shelf.web_and_frame("f"), (((ECHO_2, ECHO_2, ECHO_2), (ECHO_2, ONLY_A), (ECHO_2,)), frame))
        shelf.looked()
        # As the first one of a row it may tell c's, ahead of itself it may not.
        self.refused(Held, {"name": "f"}, shelf, "exchange", "a", one_state("ab", "abc"))


class TestLay(TestCase):
    def test_ordinary(self):
        shelf = filled([("a", ECHO), ("b", TWOS)])
        self.assertIs(shelf.lay("f", (("a",),), PLAIN), None)
        shelf.lay("g", (("a",), ("a", "b")), BOTH)
        self.assertEqual(shelf.frames(), ["f", "g"])
        self.assertEqual(shelf.web_and_frame("f"), (((ECHO,),), PLAIN))
        self.assertEqual(shelf.web_and_frame("g"), (((ECHO,), (ECHO, TWOS)), BOTH))

    def test_names(self):
        for name in NAMES:
            shelf = filled([("other", ECHO)])
            shelf.lay(name, (("other",),), PLAIN)
            self.assertEqual(shelf.frames(), [name])

    def test_no_names(self):
        shelf = filled([("other", ECHO)])
        for name in NO_NAMES:
            if name not in ("abc",):
                self.refused(NoName, {"name": name}, shelf, "lay", name, (("other",),), PLAIN)
                self.refused(NoName, {"name": name}, shelf, "lay", name, None, None)

    def test_taken(self):
        shelf = some_shelf()
        for name in ("echo", "twos", "only", "plain", "both", "bare"):
            self.refused(Taken, {"name": name}, shelf, "lay", name, (("echo",),), PLAIN)
            self.refused(Taken, {"name": name}, shelf, "lay", name, None, None)

    def test_full(self):
        shelf = filled([("r", ECHO)], [(name, (("r",),), PLAIN) for name in "abcdefgh"])
        shelf.looked()
        self.assertEqual(shelf.frames(), list("abcdefgh"))
        self.refused(Full, {"most": 8}, shelf, "lay", "i", (("r",),), PLAIN)
        self.refused(Full, {"most": 8}, shelf, "lay", "i", None, None)
        self.refused(Full, {"most": 8}, shelf, "lay", "i", (("none",),), None)
        # There is room for readers still.
        shelf.put("i", ECHO)
        shelf.drop("a")
        shelf.lay("k", (("i",),), PLAIN)
        self.assertEqual(shelf.frames(), list("bcdefghk"))

    def test_eight_of_each(self):
        shelf = filled([("r" + name, ECHO) for name in "abcdefgh"],
                       [("f" + name, (("r" + name,),), PLAIN) for name in "abcdefgh"])
        self.assertEqual((len(shelf.readers()), len(shelf.frames())), (8, 8))

    def test_rows_that_are_no_tuple_of_tuples_of_texts(self):
        shelf = filled([("a", ECHO)])
        for rows in (None, True, 0, "a", ["a"], [("a",)], (["a"],), ("a",), ("a", ("a",)), (("a",), None), (("a", 0),),
                     ((("a",),),), ({"a": 1},), {("a",): 1}, {}, [], nested(20), (("a",), ["a"]), (("zz", None),),
                     (("zz",), (True,)), (("zz",), "a")):
            self.refused(NoWeb, {}, shelf, "lay", "f", rows, PLAIN)
            self.refused(NoWeb, {}, shelf, "lay", "f", rows, None)

    def test_rows_of_names_that_are_no_readers(self):
        shelf = filled([("a", ECHO), ("b", TWOS)], [("g", (("a",),), PLAIN)])
        shelf.looked()
        for rows, name in (((("c",),), "c"), ((("a",), ("a", "c"), ("d",)), "c"), ((("a",), ("d", "c")), "d"),
                           ((("g",),), "g"), ((("",),), ""), ((("A",),), "A"), (((), ("a", "x y"), ("c",)), "x y"),
                           ((("a",) * 9, ("c",)), "c"), ((("a",),) * 9 + (("abcdefghi",),), "abcdefghi")):
            self.refused(NoName, {"name": name}, shelf, "lay", "f", rows, PLAIN)
            self.refused(NoName, {"name": name}, shelf, "lay", "f", rows, None)

    def test_rows_that_make_no_web(self):
        shelf = filled([("a", ECHO), ("b", TWOS), ("c", THREES)])
        for rows in ((), ((),), (("a",), ()), (("a",),) * 4, (("a",) * 4,), (("b", "a"),), (("a",), ("c",)),
                     (("a", "c"),)):
            self.refused(NoWeb, {}, shelf, "lay", "f", rows, PLAIN)
            self.refused(NoWeb, {}, shelf, "lay", "f", rows, None)

    def test_no_frame(self):
        shelf = filled([("a", ECHO), ("b", TWOS)])
        for thing in OTHER_THINGS + (nested(20), list(PLAIN), PLAIN[:2], BOTH, (("a", "c"),) + PLAIN[1:],
                                     (("a",),) + PLAIN[1:]):
            self.refused(NoFrame, {}, shelf, "lay", "f", (("a",),), thing)
        self.refused(NoFrame, {}, shelf, "lay", "f", (("b",),), PLAIN)
        self.refused(NoFrame, {}, shelf, "lay", "f", (("a",), ("a",)), BOTH)

    def test_frames_beyond_the_bound(self):
        turns = [("ab", "ab", tuple([((((k + 1) % 6, "a"), ((k + far) % 6, "b")), "") for k in range(6)]))
                 for far in (0, 2, 3)]
        shelf = filled(list(zip("abc", turns)))
        frame = (("a" * 20,) * 5, ((0, ALL), (1, ALL), (2, ALL), (0, ALL)), (("a" * 20,) * 3, ("",) * 2, ("b",) * 2))
        shelf.lay("f", (("a", "b", "c"), ("c", "b", "a"), ("b", "c", "a")), frame)
        shelf.edit("f", 4, "b" * 20)
        self.assertEqual(shelf.web_and_frame("f")[1], (("a" * 20,) * 4 + ("b" * 20,),) + frame[1:])
        self.assertEqual(shelf.looked(), ["f"])


class TestEdit(TestCase):
    def test_ordinary(self):
        shelf = some_shelf()
        self.assertIs(shelf.edit("plain", 1, "ba"), None)
        self.assertEqual(shelf.web_and_frame("plain")[1], (("a", "ba"),) + PLAIN[1:])
        shelf.edit("plain", 0, "")
        self.assertEqual(shelf.web_and_frame("plain")[1], (("", "ba"),) + PLAIN[1:])
        shelf.edit("bare", 0, "a" * 20)
        self.assertEqual(shelf.web_and_frame("bare")[1], (("a" * 20,),) + BARE[1:])
        self.assertEqual(shelf.web_and_frame("both")[1], BOTH)

    def test_names_that_are_not_there(self):
        shelf = some_shelf()
        for name in ("plai", "echo", "twos", "plains") + NO_NAMES:
            self.refused(NoName, {"name": name}, shelf, "edit", name, 0, "a")
            self.refused(NoName, {"name": name}, shelf, "edit", name, None, None)

    def test_numbers_that_are_none_of_a_piece(self):
        shelf = some_shelf()
        for i in (2, 3, -1, -2, True, False, None, "0", "", (0,), [0], {0: 0}, 10 ** 59, -10 ** 59, nested(20)):
            self.refused(NoFrame, {}, shelf, "edit", "plain", i, "a")
            self.refused(NoFrame, {}, shelf, "edit", "plain", i, None)
        self.refused(NoFrame, {}, shelf, "edit", "bare", 1, "a")

    def test_pieces_that_are_none(self):
        shelf = some_shelf()
        for piece in OTHER_THINGS + (nested(20), "c", "A", "a b", "a" * 21, ("a",), ["a"], ("a", "b")):
            if piece != "":
                self.refused(NoFrame, {}, shelf, "edit", "plain", 0, piece)
                self.refused(NoFrame, {}, shelf, "edit", "plain", 1, piece)


class TestDrop(TestCase):
    def test_ordinary(self):
        shelf = some_shelf()
        self.assertIs(shelf.drop("only"), None)
        self.assertEqual(shelf.readers(), ["echo", "twos"])
        shelf.drop("both")
        self.assertEqual(shelf.frames(), ["bare", "plain"])
        shelf.drop("plain")
        shelf.drop("echo")
        self.assertEqual((shelf.readers(), shelf.frames()), (["twos"], ["bare"]))

    def test_names_that_are_not_there(self):
        shelf = some_shelf()
        for name in ("onl", "z") + NO_NAMES:
            self.refused(NoName, {"name": name}, shelf, "drop", name)
        shelf.drop("only")
        self.refused(NoName, {"name": "only"}, shelf, "drop", "only")
        for told, name in (("reader", "only"), ("web_and_frame", "only")):
            self.refused(NoName, {"name": name}, shelf, told, name)

    def test_held(self):
        shelf = some_shelf()
        self.refused(Held, {"name": "both"}, shelf, "drop", "echo")
        self.refused(Held, {"name": "bare"}, shelf, "drop", "twos")
        shelf.drop("bare")
        self.refused(Held, {"name": "both"}, shelf, "drop", "twos")
        shelf.drop("both")
        self.refused(Held, {"name": "plain"}, shelf, "drop", "echo")
        shelf.drop("twos")
        shelf.drop("plain")
        shelf.drop("echo")
        self.assertEqual((shelf.readers(), shelf.frames()), (["only"], []))

    def test_a_dropped_name_is_new_again(self):
        shelf = some_shelf()
        shelf.drop("only")
        shelf.lay("only", (("twos",),), BARE)
        shelf.drop("plain")
        shelf.put("plain", SHUT)
        self.assertEqual(shelf.reader("plain"), SHUT)
        self.assertEqual(shelf.web_and_frame("only"), (((TWOS,),), BARE))


class TestUndo(TestCase):
    def test_none_where_there_is_none(self):
        shelf = Shelf()
        self.assertIs(shelf.undo(), None)
        self.assertIs(shelf.undo(), None)
        shelf.put("a", ECHO)
        self.undone(shelf, ["put", None, None])
        self.assertEqual(shelf.readers(), [])

    def test_each_deed(self):
        shelf = Shelf()
        deeds = [
            ("put", "a", ECHO), ("put", "b", TWOS), ("lay", "f", (("a",),), PLAIN), ("exchange", "a", ECHO_2),
            ("edit", "f", 1, ""), ("lay", "g", (("a",), ("a", "b")), BOTH), ("put", "c", SHUT), ("drop", "c"),
            ("exchange", "b", one_state("ab", "cd", "d")), ("drop", "f"), ("edit", "g", 0, "bb"), ("drop", "g"),
            ("drop", "a"), ("put", "a", SHUT),
        ]
        told = []
        for deed, *things in deeds:
            told.append((copy.deepcopy(shelf), all_told(shelf)))
            getattr(shelf, deed)(*things)
        for (deed, *_), (ahead, those) in list(zip(deeds, told))[::-1]:
            self.assertEqual(shelf.undo(), deed)
            self.assertEqual(all_told(shelf), those)
            self.assertEqual(shelf, ahead)
        self.assertIs(shelf.undo(), None)
        self.assertEqual(shelf, Shelf())

    def test_what_was_undone_does_not_come_back(self):
        shelf = Shelf()
        shelf.put("a", ECHO)
        shelf.put("b", TWOS)
        self.undone(shelf, ["put"])
        shelf.exchange("a", SHUT)
        shelf.drop("a")
        self.undone(shelf, ["drop"])
        self.assertEqual(shelf.reader("a"), SHUT)
        shelf.lay("f", (("a",),), BARE)
        self.undone(shelf, ["lay", "exchange"])
        self.assertEqual((shelf.readers(), shelf.reader("a")), (["a"], ECHO))
        self.undone(shelf, ["put", None])
        self.assertEqual(all_told(shelf), ([], [], [], []))

    def test_deeds_that_change_nothing_are_deeds_all_the_same(self):
        shelf = some_shelf()
        shelf.exchange("echo", ECHO)
        shelf.edit("plain", 0, "a")
        shelf.exchange("only", ONLY_A)
        self.undone(shelf, ["exchange", "edit", "exchange", "lay", "lay", "lay", "put", "put", "put", None])

    def test_what_is_refused_is_not_undone(self):
        shelf = some_shelf()
        self.refused(Held, {"name": "both"}, shelf, "drop", "echo")
        self.refused(Held, {"name": "both"}, shelf, "exchange", "echo", SHUT)
        self.refused(NoReader, {}, shelf, "put", "new", None)
        self.refused(NoFrame, {}, shelf, "lay", "new", (("echo",),), None)
        self.refused(NoFrame, {}, shelf, "edit", "plain", 0, None)
        shelf.put("new", SHUT)
        self.refused(NoName, {"name": None}, shelf, "drop", None)
        self.undone(shelf, ["put", "lay", "lay", "lay", "put", "put", "put", None])

    def test_the_words_are_texts(self):
        shelf = some_shelf()
        self.assertEqual({type(shelf.undo()) for _ in range(6)}, {str})


class TestLooked(TestCase):
    def looked(self, shelf, names):
        found = shelf.looked()
        self.assertEqual(found, names)
        self.assertIsInstance(found, list)
        found.append("changed")
        self.assertEqual(shelf.looked(), [])

    def test_laid(self):
        shelf = filled([("a", ECHO)])
        self.looked(shelf, [])
        shelf.lay("g", (("a",),), PLAIN)
        self.looked(shelf, ["g"])
        shelf.lay("i", (("a",),), PLAIN)
        shelf.lay("f", (("a",),), BARE)
        self.looked(shelf, ["f", "i"])

    def test_readers_alone(self):
        shelf = some_shelf()
        shelf.put("new", SHUT)
        shelf.exchange("new", ECHO)
        shelf.exchange("only", SHUT)
        shelf.drop("new")
        self.undone(shelf, ["drop", "exchange"])
        self.looked(shelf, [])

    def test_exchanged(self):
        shelf = some_shelf()
        shelf.exchange("echo", ECHO_2)
        self.looked(shelf, ["both", "plain"])
        shelf.exchange("twos", one_state("ab", "d"))
        self.looked(shelf, ["bare", "both"])
        shelf.exchange("twos", one_state("ab", "d"))
        self.looked(shelf, [])
        shelf.exchange("echo", ECHO_2)
        self.looked(shelf, [])

    def test_exchanged_there_and_back(self):
        shelf = some_shelf()
        shelf.exchange("twos", one_state("ab", "d"))
        shelf.exchange("twos", TWOS)
        self.looked(shelf, ["bare", "both"])

    def test_edited(self):
        shelf = some_shelf()
        shelf.edit("plain", 0, "a")
        self.looked(shelf, [])
        shelf.edit("plain", 0, "b")
        shelf.edit("bare", 0, "b")
        shelf.edit("plain", 0, "a")
        self.looked(shelf, ["bare", "plain"])

    def test_dropped(self):
        shelf = some_shelf()
        shelf.drop("plain")
        self.looked(shelf, [])
        shelf.edit("both", 0, "")
        shelf.drop("both")
        self.looked(shelf, [])

    def test_laid_and_dropped_between(self):
        shelf = some_shelf()
        shelf.lay("new", (("echo",),), PLAIN)
        shelf.drop("new")
        self.looked(shelf, [])
        shelf.lay("new", (("echo",),), PLAIN)
        self.looked(shelf, ["new"])

    def test_dropped_and_laid_anew(self):
        shelf = some_shelf()
        shelf.drop("plain")
        shelf.lay("plain", (("echo",),), PLAIN)
        self.looked(shelf, ["plain"])

    def test_undone(self):
        shelf = some_shelf()
        shelf.drop("plain")
        self.undone(shelf, ["drop"])
        self.looked(shelf, ["plain"])
        shelf.exchange("echo", ECHO_2)
        self.looked(shelf, ["both", "plain"])
        self.undone(shelf, ["exchange"])
        self.looked(shelf, ["both", "plain"])
        shelf.edit("bare", 0, "aa")
        self.undone(shelf, ["edit"])
        self.looked(shelf, ["bare"])
        shelf.edit("bare", 0, "")
        shelf.exchange("echo", ECHO)
        self.undone(shelf, ["exchange", "edit"])
        self.looked(shelf, [])
        self.undone(shelf, ["lay", "lay", "lay", "put", "put", "put", None])
        self.looked(shelf, [])

    def test_an_edit_ahead_of_a_drop_that_is_undone(self):
        shelf = some_shelf()
        shelf.edit("plain", 0, "b")
        shelf.drop("plain")
        self.looked(shelf, [])
        self.undone(shelf, ["drop"])
        self.looked(shelf, ["plain"])

    def test_asking_looks_at_nothing(self):
        shelf = some_shelf()
        all_told(shelf)
        for name in shelf.frames():
            shelf.writer_wins(name)
            shelf.book(name)
        shelf.writer("plain")
        self.looked(shelf, [])

    def test_an_equal_reader_made_anew(self):
        shelf = some_shelf()
        shelf.exchange("echo", eval(repr(ECHO)))
        shelf.edit("plain", 1, "".join(["b"]))
        self.looked(shelf, [])


class TestTelling(TestCase):
    def test_names_are_sorted(self):
        shelf = filled([(name, ECHO) for name in ("b", "ab", "a", "ba")],
                       [(name, (("a",),), PLAIN) for name in ("z", "ya", "y", "za")])
        for _ in range(2):
            readers, frames = shelf.readers(), shelf.frames()
            self.assertEqual((readers, frames), (["a", "ab", "b", "ba"], ["y", "ya", "z", "za"]))
            readers.clear()
            frames.reverse()
        self.assertIs(type(readers), list)
        self.assertIs(type(frames), list)

    def test_no_names(self):
        shelf = some_shelf()
        for name in NO_NAMES + ("plain", "both", "z"):
            self.refused(NoName, {"name": name}, shelf, "reader", name)
        for deed in ("web_and_frame", "writer_wins", "book", "writer"):
            for name in NO_NAMES + ("echo", "only", "z"):
                self.refused(NoName, {"name": name}, shelf, deed, name)

    def test_who_wins(self):
        shelf = some_shelf()
        self.assertIs(shelf.writer_wins("plain"), True)
        self.assertIs(shelf.book("plain"), None)
        self.assertIs(shelf.writer_wins("both"), False)
        web, frame = shelf.web_and_frame("both")
        for _ in range(2):
            found = shelf.book("both")
            self.assertEqual(found, book(web, frame))
            self.assertIsInstance(found, dict)
            found.clear()
        self.refused(NoWay, {}, shelf, "writer", "both")
        shelf.exchange("echo", ONLY_AS)
        self.assertIs(shelf.writer_wins("plain"), False)
        shelf.looked()
        self.refused(NoWay, {}, shelf, "writer", "plain")
        self.assertEqual(shelf.book("plain"), book(((ONLY_AS,),), PLAIN))
        shelf.undo()
        self.assertIs(shelf.writer_wins("plain"), True)
        shelf.edit("plain", 1, "a")
        self.assertIs(shelf.writer_wins("plain"), False)
        self.assertIs(shelf.writer_wins("bare"), True)
        self.assertIs(shelf.book("bare"), None)

    def test_a_writer(self):
        shelf = some_shelf()
        writer = shelf.writer("plain")
        self.assertIsInstance(writer, Writer)
        self.assertEqual((writer.write("ab"), writer.text()), ("ab", "aabb"))
        other = shelf.writer("plain")
        self.assertEqual(other.words(), [])
        with self.assertRaises(NoWord):
            other.write("c")

    def test_a_writer_goes_on_as_it_was_made(self):
        shelf = filled([("a", ECHO)], [("f", (("a",),), (("", "b", ""), ((0, ALL), (0, MIXED)), (("", "b", ""),)))])
        writer = shelf.writer("f")
        writer.write("ab")
        fork = writer.fork()
        shelf.exchange("a", ONLY_AS)
        self.assertEqual(writer.write("baa"), "baa")
        shelf.edit("f", 1, "a")
        self.assertEqual((writer.text(), writer.words()), ("abbbaa", ["ab", "baa"]))
        shelf.drop("f")
        writer.take_back(2)
        self.assertEqual((writer.write("bb"), writer.text()), ("bb", "bbb"))
        shelf.drop("a")
        self.assertEqual((fork.write("a"), fork.text()), ("a", "abba"))
        for word in ("drop", "drop", "edit", "exchange", "lay", "put"):
            self.assertEqual(shelf.undo(), word)
            self.assertEqual(writer.words(), ["bb"])
        self.assertEqual((writer.write("a"), writer.text()), ("a", "bbba"))

    def test_what_is_handed_in_stays(self):
        things = copy.deepcopy((ECHO, (("a",),), PLAIN))
        shelf = filled([("a", things[0])], [("f", things[1], things[2])])
        shelf.exchange("a", ECHO_2)
        shelf.edit("f", 0, "b")
        self.assertEqual(things, (ECHO, (("a",),), PLAIN))


class TestEqual(TestCase):
    def told(self, due, one, other):
        self.assertIs(one == other, due)
        self.assertIs(other == one, due)
        self.assertIs(one != other, not due)

    def test_shelves_in_another_order(self):
        one = filled([("a", ECHO), ("b", TWOS)], [("f", (("a",),), PLAIN), ("g", (("b",),), BARE)])
        other = filled([("b", TWOS), ("a", ECHO)], [("g", (("b",),), BARE), ("f", (("a",),), PLAIN)])
        self.told(True, one, other)
        self.told(True, one, one)
        self.told(True, Shelf(), Shelf())
        self.told(False, one, Shelf())

    def test_deeds_and_what_was_looked_at_are_nothing_to_it(self):
        one, other = some_shelf(), some_shelf()
        one.exchange("echo", ECHO_2)
        self.told(False, one, other)
        one.undo()
        self.told(True, one, other)
        one.looked()
        one.exchange("only", ONLY_A)
        other.put("new", SHUT)
        self.told(False, one, other)
        other.drop("new")
        self.told(True, one, other)
        one.edit("plain", 0, "b")
        other.drop("plain")
        other.lay("plain", (("echo",),), (("b", "b"),) + PLAIN[1:])
        self.told(True, one, other)

    def test_another_reader_or_frame(self):
        one = filled([("a", ECHO)], [("f", (("a",),), PLAIN)])
        self.told(False, one, filled([("a", ECHO_2)], [("f", (("a",),), PLAIN)]))
        self.told(False, one, filled([("a", ECHO)], [("f", (("a",),), OTHER)]))
        self.told(False, one, filled([("a", ECHO)], [("g", (("a",),), PLAIN)]))
        self.told(False, one, filled([("a", ECHO)]))
        self.told(False, one, filled([("a", ECHO), ("b", ECHO)], [("f", (("a",),), PLAIN)]))
        self.told(False, one, filled([("a", ECHO)], [("f", (("a",),), PLAIN), ("g", (("a",),), PLAIN)]))

    def test_frames_laid_by_another_name_of_an_equal_reader(self):
        readers = [("a", ECHO), ("b", ECHO)]
        self.told(False, filled(readers, [("f", (("a",),), PLAIN)]), filled(readers, [("f", (("b",),), PLAIN)]))
        self.told(True, filled(readers, [("f", (("b",),), PLAIN)]), filled(readers, [("f", (("b",),), PLAIN)]))

    def test_things_of_other_kinds(self):
        for shelf in (Shelf(), some_shelf()):
            for thing in OTHER_THINGS + (nested(20), Shelf, "echo", Writer(((ECHO,),), PLAIN)):
                self.told(False, shelf, thing)


class TestByChance(TestCase):
    READERS = (ECHO, ECHO_2, ONLY_AS, ONLY_A, TWOS, SHUT, PAIRS, TURNS, QUIET, one_state("ab", "a", "a"), None)
    FRAMES = (PLAIN, OTHER, BARE, BOTH, (("", "a"), ((0, EMPTY),), (("", "a"),)), (("a",), (), (("a",),)), None)

    def deed(self, chance, shelf):
        """A deed by chance; whether it was done, and its word."""
        names = ("a", "b", "c", "f", "g", "h", "Z")
        word = chance.choice(("put", "exchange", "exchange", "lay", "lay", "edit", "edit", "drop", "undo"))
        rows = tuple([tuple([chance.choice("aabbc") for _ in range(chance.choice((1, 1, 2)))])
                      for _ in range(chance.choice((1, 1, 2)))])
        things = {
            "put": (chance.choice("abc"), chance.choice(self.READERS)),
            "exchange": (chance.choice("abc"), chance.choice(self.READERS)),
            "lay": (chance.choice("fgh"), rows, chance.choice(self.FRAMES)),
            "edit": (chance.choice("fgh"), chance.choice((0, 1)), chance.choice(("", "a", "b", "ba"))),
            "drop": (chance.choice(names),), "undo": (),
        }[word]
        try:
            getattr(shelf, word)(*things)
        except HoleError:
            return None
        return word

    def test_against_shelves_made_anew(self):
        chance = random.Random(121)
        done = {}
        for _ in range(60):
            shelf = Shelf()
            past = []
            looked = []
            for _ in range(40):
                ahead = {name: shelf.web_and_frame(name) for name in shelf.frames()}
                told = all_told(shelf)
                word = self.deed(chance, shelf)
                done[word] = done.get(word, 0) + 1
                if word == "undo":
                    self.assertEqual(all_told(shelf), past.pop() if past else told)
                elif word is not None:
                    past.append(told)
                else:
                    self.assertEqual(all_told(shelf), told)
                looked += [name for name in shelf.frames() if ahead.get(name) != shelf.web_and_frame(name)]
                if chance.randrange(3) == 0:
                    self.assertEqual(shelf.looked(), sorted({name for name in looked if name in shelf.frames()}))
                    looked = []
                for name in shelf.frames():
                    web, frame = shelf.web_and_frame(name)
                    self.assertTrue(is_web(web) and is_frame(web, frame))
                    self.assertIs(shelf.writer_wins(name), writer_wins(web, frame))
                    self.assertEqual(shelf.book(name), book(web, frame))
        self.assertEqual(set(done), {"put", "exchange", "lay", "edit", "drop", "undo", None})
        self.assertGreater(min(done.values()), 10)


if __name__ == "__main__":
    unittest.main()
