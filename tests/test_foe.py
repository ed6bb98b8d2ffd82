"""The foe: books, which of them win, and how they are played."""

import copy
import random
import unittest

from foeholes.errors import HoleError, NoBook
from foeholes.foe import book, is_winning, played
from foeholes.frames import is_frame, wrong_at
from foeholes.rows import is_web
from foeholes.standings import behind, come_to, hole_leads, is_standing, piece_leads
from foeholes.winning import good, writer_wins
from tests.frame_samples import ALL, ECHO, EMPTY, MIXED, OTHER_THINGS, TWOS, lot_of_words, nested, slow_words
from tests.play_samples import slow_good_next, some_plays
from tests.samples import some_text
from tests.test_winning import DOUBLES, EMPTY_X, FOUR, PAIRED, PARITY, SINGLE, TRAP, TRAPPED, XS, at, of_one

# Lost at hole 1 alone, from where an odd word led: there is no text for the empty word.
LATER = of_one(PARITY, [XS, XS])
WON = [of_one(ECHO, [ALL]), TRAPPED, SINGLE, of_one(PARITY, [XS]), of_one(ECHO, [], ("a",), ("a",))]
# Piece 0 leads to none.
LOST_AT_ONCE = [of_one(ECHO, [ALL], ("a", "")), of_one(ECHO, [ALL, ALL], ("", "", ""), ("b", "", "")),
                of_one(ECHO, [], ("a",), ("b",)), of_one(TWOS, [], ("",), ("a",))]


class TestBook(unittest.TestCase):
    def told(self, due, web, frame):
        with self.subTest(web=web, frame=frame):
            self.assertTrue(is_web(web) and is_frame(web, frame))
            ahead = copy.deepcopy((web, frame))
            found = book(web, frame)
            self.assertEqual(found, due)
            self.assertEqual((web, frame), ahead)
            self.assertIs(found is None, writer_wins(web, frame))
            if found is not None:
                self.assertIsInstance(found, dict)
                self.assertIs(is_winning(web, frame, found), True)
                found["changed"] = "a"
                self.assertEqual(book(web, frame), due)

    def test_none_where_the_writer_wins(self):
        for web, frame in WON:
            self.told(None, web, frame)

    def test_nothing_where_piece_0_leads_to_none(self):
        for web, frame in LOST_AT_ONCE:
            self.told({}, web, frame)

    def test_the_least_word_that_has_no_text(self):
        self.told({(0, at(0)): "x"}, *of_one(DOUBLES, [XS]))
        self.told({(0, at(0)): "xxx"}, *of_one(DOUBLES, [lot_of_words("x", ["", "xx", "xxx", "xxxxx"])]))
        self.told({(0, at(0)): ""}, *of_one(ECHO, [ALL], ("", "b"), ("", "a")))
        # b is shorter than aa, ab is sorted ahead of ba.
        self.told({(0, at(0)): "b"}, *of_one(TWOS_OR_A, [lot_of_words("ab", ["aa", "a", "b"])]))
        self.told({(0, at(0)): "ab"}, *of_one(TWOS_OR_A, [lot_of_words("ab", ["", "ba", "a", "ab"])]))

    def test_a_long_word(self):
        web, frame = PAIRED
        here = come_to(web, frame)[0][0]
        self.told({(0, here): "b"}, web, frame)
        ring = ("a", "x", tuple([((((k + 1) % 6, "xx" if k == 5 else "x"),), "") for k in range(6)]))
        self.told({(0, at(0)): "x" * 6}, *of_one(ring, [XS]))
        self.told({(0, at(0)): "x" * 20}, *of_one(ring, [("x", tuple([(((k + 1) % 5,), k == 0) for k in range(5)]))]))

    def test_those_alone_that_it_comes_to(self):
        web, frame = LATER
        self.assertEqual(come_to(web, frame), [[at(0)], [at(k) for k in range(6)]])
        self.told({(0, at(0)): "x", (1, at(1)): "", (1, at(3)): "x", (1, at(5)): ""}, web, frame)

    def test_standings_that_are_good_are_not_in_it(self):
        for web, frame in some_plays(81, 400):
            found = book(web, frame)
            with self.subTest(web=web, frame=frame):
                self.assertIs(found is None, writer_wins(web, frame))
                for i, here in found or {}:
                    self.assertIn(here, come_to(web, frame)[i])
                    self.assertNotIn(here, good(web, frame)[i])

    def test_against_a_slow_look_at_all_short_words(self):
        tried = 0
        for web, frame in some_plays(82, 300):
            found = book(web, frame)
            if not found:
                continue
            lead = piece_leads(web, frame, 0, None)
            due = {(0, lead): None}
            known = {}
            ahead = [(0, lead)]
            while ahead:
                i, here = ahead.pop()
                if len(found[i, here]) > 4:
                    break
                words = slow_words(frame[1][i][1], 4)
                due[i, here] = [word for word in words
                                if not slow_good_next(web, frame, i, here, word, 4, known)][0]
                for after in behind(web, frame, i, here, due[i, here]):
                    lead = piece_leads(web, frame, i + 1, after)
                    if lead is not None and (i + 1, lead) not in due:
                        due[i + 1, lead] = None
                        ahead.append((i + 1, lead))
            else:
                tried += 1
                self.told(due, web, frame)
        self.assertGreater(tried, 100)

    def test_four_holes(self):
        web, frame = FOUR
        self.told({(0, at(0)): "", (1, at(0)): "", (2, at(0)): "", (3, at(0)): "cd"}, web, frame)


# a tells a, bb tells b; ab is told by no text.
TWOS_OR_A = ("ab", "ab", (
    (((0, "a"), (1, "")), ""),
    (((2, ""), (2, "")), None),
    (((2, ""), (2, "")), None),
))


class TestIsWinning(unittest.TestCase):
    def told(self, wins, web, frame, thing):
        with self.subTest(web=web, frame=frame, thing=thing):
            ahead = copy.deepcopy(thing)
            self.assertIs(is_winning(web, frame, thing), wins)
            self.assertEqual(thing, ahead)

    def test_what_is_told_wins(self):
        for web, frame in some_plays(83, 300):
            found = book(web, frame)
            self.told(found is not None, web, frame, found)

    def test_nothing_wins_just_where_piece_0_leads_to_none(self):
        for web, frame in LOST_AT_ONCE:
            self.told(True, web, frame, {})
        for web, frame in WON + [PAIRED, FOUR, LATER]:
            self.told(False, web, frame, {})

    def test_with_a_pair_out(self):
        for web, frame in [PAIRED, FOUR, LATER]:
            found = book(web, frame)
            self.told(True, web, frame, found)
            for key in found:
                self.told(False, web, frame, {other: found[other] for other in found if other != key})

    def test_with_another_word(self):
        web, frame = of_one(DOUBLES, [XS])
        self.told(True, web, frame, {(0, at(0)): "xxx"})
        self.told(True, web, frame, {(0, at(0)): "x" * 61})
        self.told(False, web, frame, {(0, at(0)): "xx"})
        self.told(False, web, frame, {(0, at(0)): ""})
        web, frame = LATER
        found = book(web, frame)
        for word in ("xx", "xxxx"):
            self.told(False, web, frame, found | {(0, at(0)): word})
        self.told(True, web, frame, found | {(1, at(1)): "xx"})
        self.told(False, web, frame, found | {(1, at(1)): "x"})

    def test_with_a_word_that_is_none(self):
        web, frame = of_one(DOUBLES, [lot_of_words("x", ["x", "xx"])])
        self.told(True, web, frame, {(0, at(0)): "x"})
        for word in OTHER_THINGS + ("xxx", "y", ["x"], ("x",), ("x", "x"), {"x": "x"}, nested(20)):
            self.told(False, web, frame, {(0, at(0)): word})

    def test_with_a_pair_more_that_is_never_come_to(self):
        # From state 1 on no text is let by; it is never come to.
        reader = ("a", "x", ((((0, "xx"),), ""), (((1, "x"),), None), (((2, "x"),), "")))
        web, frame = of_one(reader, [XS])
        self.assertEqual(come_to(web, frame), [[at(0)]])
        found = book(web, frame)
        self.told(True, web, frame, found)
        self.told(True, web, frame, found | {(0, at(1)): "xxxx"})
        self.told(True, web, frame, found | {(0, at(1)): ""})
        # From state 2 each word has a text.
        self.told(False, web, frame, found | {(0, at(2)): "x"})
        web, frame = of_one(reader, [EMPTY_X, XS])
        found = book(web, frame)
        self.assertEqual(found, {(0, at(0)): "", (1, at(0)): "x"})
        # What it leads to has to be there, too.
        self.told(False, web, frame, found | {(0, at(1)): ""})
        self.told(True, web, frame, found | {(0, at(1)): "", (1, at(1)): "x"})
        self.told(False, web, frame, found | {(0, at(2)): "", (1, at(2)): "x"})

    def test_keys_that_are_no_pairs_of_a_hole_and_a_standing(self):
        web, frame = of_one(DOUBLES, [XS, EMPTY_X], ("", "xx", ""), ("", "a", ""))
        found = book(web, frame)
        self.assertEqual(found, {(0, at(0)): "x"})
        self.told(True, web, frame, found)
        for key in (at(0), (0,), (0, at(0), 0), 0, "0", None, True, (), (0, None), (0, 0), (2, at(0)), (-1, at(0)),
                    (None, at(0)), ("0", at(0)), (10 ** 59, at(0)), (1, at(0)), (1, at(0, 1)), (1, at(0, 3)),
                    (0, at(1)), (0, at(0, 2)), (0, at(0, -1)), (0, (at(0),)), (at(0), 0)):
            for word in ("", "x"):
                self.told(False, web, frame, found | {key: word})

    def test_truths(self):
        web, frame = LATER
        found = book(web, frame)
        changed = {(i == 1, here): word for (i, here), word in found.items()}
        self.assertEqual(changed, found)
        self.told(False, web, frame, changed)
        changed = {(i, (here[0], (False,))): word for (i, here), word in found.items()}
        self.assertEqual(changed, found)
        self.told(False, web, frame, changed)
        self.told(False, *of_one(DOUBLES, [XS]), {(False, at(0)): "x"})
        self.told(False, *of_one(DOUBLES, [XS]), {(0, at(False)): "x"})

    def test_a_standing_of_another_hole(self):
        web, frame = of_one(ECHO, [EMPTY, ALL], ("a", "bb", "b"), ("a", "bb", "a"))
        self.told(True, web, frame, {(0, at(0, 1)): "", (1, at(0, 2)): ""})
        self.told(False, web, frame, {(0, at(0, 2)): "", (1, at(0, 2)): ""})
        self.told(False, web, frame, {(0, at(0, 1)): "", (1, at(0, 2)): "", (1, at(0, 1)): ""})

    def test_things_of_other_kinds(self):
        for web, frame in [LATER, of_one(ECHO, [ALL]), of_one(ECHO, [], ("a",), ("a",))] + LOST_AT_ONCE:
            for thing in OTHER_THINGS + (nested(20), [((0, at(0)), "x")], (((0, at(0)), "x"),), {"a": "b"}, {(): ""},
                                         {nested(0): nested(19)}):
                if thing != {}:
                    self.told(False, web, frame, thing)

    def test_by_chance_what_wins_beats_all_texts(self):
        chance = random.Random(84)
        for web, frame in some_plays(85, 250):
            lists = come_to(web, frame)
            thing = {(i, here): chance.choice(slow_words(frame[1][i][1], 3))
                     for i, part in enumerate(lists) for here in part if chance.randrange(8)}
            won = is_winning(web, frame, thing)
            with self.subTest(web=web, frame=frame, thing=thing):
                if won:
                    self.assertFalse(writer_wins(web, frame))
                due = all([self.goes_on(web, frame, thing, i, here, thing[i, here]) for i, here in thing])
                lead = piece_leads(web, frame, 0, None)
                self.assertIs(won, due and (lead is None or (0, lead) in thing))

    def goes_on(self, web, frame, thing, i, here, word):
        """Whether the thing has all standings to which its word leads."""
        for after in behind(web, frame, i, here, word):
            lead = piece_leads(web, frame, i + 1, after)
            if lead is True or lead is not None and (i + 1, lead) not in thing:
                return False
        return True


class TestPlayed(unittest.TestCase):
    def told(self, due, web, frame, words, texts):
        """Play the words against answers with these texts; the last one is answered again and again."""
        asked = []

        def answer(i, word, text):
            asked.append((i, word, text))
            return texts[min(i, len(texts) - 1)]

        with self.subTest(web=web, frame=frame, words=words, texts=texts):
            ahead = copy.deepcopy((web, frame, words))
            found = played(web, frame, words, answer)
            self.assertEqual(found, due)
            self.assertEqual([type(part) for part in found], [tuple] * 3)
            self.assertEqual((web, frame, words), ahead)
            begins = ["".join([frame[0][j] + found[1][j] for j in range(i)]) + frame[0][i]
                      for i in range(len(found[0]))]
            self.assertEqual(asked, list(zip(range(len(found[0])), found[0], begins)))

    def test_piece_0(self):
        for web, frame in LOST_AT_ONCE:
            self.told(((), (), ("piece", 0)), web, frame, {}, ["a"])

    def test_at_a_text(self):
        web, frame = of_one(DOUBLES, [XS])
        found = book(web, frame)
        self.told((("x",), ("a",), ("text", 0)), web, frame, found, ["a"])
        self.told((("x",), ("",), ("text", 0)), web, frame, found, [""])
        self.told((("x",), ("ab" * 100,), ("text", 0)), web, frame, found, ["ab" * 100])

    def test_at_a_text_that_makes_more_or_less_heard(self):
        web, frame = of_one(ECHO, [ALL], ("", "b"), ("", "a"))
        self.told((("ab",), ("a",), ("text", 0)), web, frame, {(0, at(0)): "ab"}, ["a"])
        self.told((("ab",), ("aba",), ("text", 0)), web, frame, {(0, at(0)): "ab"}, ["aba"])
        self.told((("ab",), ("ab",), ("piece", 1)), web, frame, {(0, at(0)): "ab"}, ["ab"])

    def test_at_the_last_piece(self):
        web, frame = LATER
        found = book(web, frame)
        self.told((("x", ""), ("a", ""), ("piece", 2)), web, frame, found, ["a", ""])
        self.told((("x", ""), ("a", "a"), ("text", 1)), web, frame, found, ["a", "a"])
        self.told((("x", "x"), ("b", "a"), ("piece", 2)), web, frame, found, ["b", "a"])
        self.told((("x", "x"), ("b", "b"), ("text", 1)), web, frame, found, ["b", "b"])
        self.told((("x",), ("aa",), ("text", 0)), web, frame, found, ["aa", ""])

    def test_at_a_piece_between(self):
        web, frame = of_one(ECHO, [ALL, ALL], ("a", "b", ""), ("a", "a", ""))
        found = book(web, frame)
        self.assertEqual(found, {(0, at(0, 1)): ""})
        self.told((("",), ("",), ("piece", 1)), web, frame, found, [""])
        self.told((("",), ("b",), ("text", 0)), web, frame, found, ["b"])

    def test_at_a_text_by_which_another_listener_parts(self):
        web, frame = PAIRED
        found = book(web, frame)
        here = come_to(web, frame)[0][0]
        self.assertEqual(hole_leads(web, frame, 0, here, "b")[0], "b")
        self.told((("b",), ("b",), ("piece", 1)), web, frame, found, ["b"])
        web = ((ECHO,), (("ab", "x", ((((0, ""), (0, "x")), ""),)),))
        frame = (("", ""), ((0, ALL),), (("", ""), ("x",)))
        self.assertEqual(book(web, frame), {(0, come_to(web, frame)[0][0]): ""})
        found = {(0, come_to(web, frame)[0][0]): "bb"}
        self.told((("bb",), ("bb",), ("text", 0)), web, frame, found, ["bb"])
        self.told((("bb",), ("ba",), ("text", 0)), web, frame, found, ["ba"])

    def test_the_whole_text_by_then(self):
        web, frame = of_one(ECHO, [ALL, ALL, ALL], ("a", "b", "", "a"), ("a", "b", "", "b"))
        found = {(0, at(0, 1)): "ab", (1, at(0, 1)): "", (2, at(0)): "b"}
        self.told((("ab", "", "b"), ("ab", "", "b"), ("piece", 3)), web, frame, found, ["ab", "", "b"])

    def test_pairs_that_are_never_come_to_do_nothing(self):
        reader = ("a", "x", ((((0, "xx"),), ""), (((1, "x"),), None)))
        web, frame = of_one(reader, [XS])
        self.told((("xxx",), ("a",), ("text", 0)), web, frame, {(0, at(1)): "x", (0, at(0)): "xxx"}, ["a"])

    def test_no_book(self):
        def answer(i, word, text):
            raise AssertionError("nothing is to be asked")

        web, frame = LATER
        found = book(web, frame)
        for thing in OTHER_THINGS + (nested(20), found | {(1, at(1)): "x"}, found | {(2, at(1)): "x"},
                                     {(0, at(0)): "x"}, found | {(False, at(1)): ""}, list(found)):
            ahead = copy.deepcopy(thing)
            with self.subTest(thing=thing):
                with self.assertRaises(HoleError) as caught:
                    played(web, frame, thing, answer)
                self.assertIs(type(caught.exception), NoBook)
                self.assertEqual(thing, ahead)
        for web, frame in WON:
            with self.assertRaises(NoBook):
                played(web, frame, {}, answer)
            with self.assertRaises(NoBook):
                played(web, frame, None, answer)

    def test_a_book_that_is_changed_while_it_is_played_is_played_as_it_was(self):
        web, frame = LATER
        found = book(web, frame)

        def answer(i, word, text):
            found.clear()
            return "a" if i == 0 else ""

        self.assertEqual(played(web, frame, found, answer), (("x", ""), ("a", ""), ("piece", 2)))

    def test_by_chance_no_whole_text_is_well(self):
        chance = random.Random(86)
        ends = set()
        for web, frame in some_plays(87, 500):
            found = book(web, frame)
            if found is None:
                continue
            lead = piece_leads(web, frame, 0, None)
            self.assertTrue(lead is None or is_standing(web, frame, 0, lead) if frame[1] else lead is None)
            for _ in range(3):
                words, texts, end = played(web, frame, found, lambda i, word, text: some_text(chance, web[0][0][0], 3))
                ends.add(end)
                self.assertEqual(len(words), len(texts))
                self.assertEqual(end[1], len(words) - 1 if end[0] == "text" else len(words))
                if len(words) == len(frame[1]):
                    self.assertIsNot(wrong_at(web, frame, words, texts), None)
        self.assertGreater(len(ends), 3)


class TestSamples(unittest.TestCase):
    def test_they_are_what_they_are_called(self):
        for reader in (TWOS_OR_A, TRAP):
            self.assertTrue(is_web(((reader,),)))
        self.assertEqual(slow_words(MIXED, 1), ["a", "b"])


if __name__ == "__main__":
    unittest.main()
