"""Writing: prices, the least texts that lead on well, and writers."""

import copy
import random
import unittest

from foeholes.errors import HoleError, NoHole, NoNumber, NoWay, NoWord
from foeholes.frames import is_frame, whole, wrong_at
from foeholes.lots import is_word
from foeholes.rows import is_web
from foeholes.standings import come_to, hole_leads, is_standing, piece_leads
from foeholes.winning import good, writer_wins
from foeholes.writing import Writer, price, text_for
from tests.frame_samples import ALL, ECHO, MIXED, OTHER_THINGS, TWOS, lot_of_words, nested, slow_words
from tests.play_samples import some_plays
from tests.samples import all_texts, one_state
from tests.test_winning import DOUBLES, FOUR, PAIRED, PARITY, SINGLE, TRAP, TRAPPED, XS, at, of_one

# c tells an a straight; a tells nothing, and behind it b and then c tell an a.
ROUND = ("abc", "a", (
    (((1, ""), (2, ""), (0, "a")), ""),
    (((1, ""), (0, "a"), (2, "")), ""),
    (((2, ""), (2, ""), (2, "")), None),
))
AS = ("a", (((0,), True),))
# a tells an x and leads to where no text is let by, bb tells one and leads back.
DEARER = ("ab", "x", (
    (((1, "x"), (2, "")), ""),
    (((1, "x"), (1, "")), None),
    (((1, "x"), (0, "x")), None),
))


class TestPrices(unittest.TestCase):
    def told(self, text, web, frame, i, standing, word):
        with self.subTest(web=web, frame=frame, i=i, standing=standing, word=word):
            ahead = copy.deepcopy((web, frame, standing))
            self.assertEqual(text_for(web, frame, i, standing, word), text)
            self.assertEqual(price(web, frame, i, standing, word), len(text))
            self.assertEqual((web, frame, standing), ahead)

    def refused(self, refusal, fields, web, frame, i, standing, word):
        for told in (price, text_for):
            with self.subTest(told=told, web=web, frame=frame, i=i, standing=standing, word=word):
                ahead = copy.deepcopy((standing, word))
                with self.assertRaises(HoleError) as caught:
                    told(web, frame, i, standing, word)
                self.assertIs(type(caught.exception), refusal)
                self.assertEqual(vars(caught.exception), fields)
                self.assertEqual((standing, word), ahead)

    def test_ordinary_words(self):
        web, frame = of_one(ECHO, [ALL])
        for word in ("", "a", "b", "abba", "ab" * 30):
            self.told(word, web, frame, 0, at(0), word)
        web, frame = of_one(DOUBLES, [("x", (((1,), True), ((0,), False)))])
        for many in range(20):
            self.told("a" * many, web, frame, 0, at(0), "xx" * many)

    def test_the_empty_word(self):
        self.told("", *of_one(ECHO, [ALL]), 0, at(0), "")
        # Where nothing is written the last piece doesn't lead to the end: behind an a it does.
        reader = ("ab", "x", ((((1, ""), (0, "x")), None), (((1, ""), (1, "x")), "")))
        self.told("a", *of_one(reader, [XS]), 0, at(0), "")
        self.told("", *of_one(reader, [XS]), 0, at(1), "")

    def test_the_least_of_two_texts_of_one_price(self):
        self.told("aaa", *of_one(one_state("ab", "x", "x"), [XS]), 0, at(0), "xxx")
        # An a is no text here that leads to the end.
        reader = ("abc", "x", ((((1, "x"), (0, "x"), (0, "x")), ""), (((1, "x"), (1, "x"), (1, "x")), None)))
        self.told("bbb", *of_one(reader, [XS]), 0, at(0), "xxx")
        # ba and cb are both as short; ba is sorted ahead.
        reader = ("abc", "xy", (
            (((2, ""), (1, "x"), (1, "x")), ""), (((0, "y"), (0, "y"), (2, "")), None),
            (((2, ""), (2, ""), (2, "")), None),
        ))
        self.told("ba", *of_one(reader, [lot_of_words("xy", ["xy"])]), 0, at(0), "xy")

    def test_a_shorter_text_goes_ahead_of_one_sorted_ahead(self):
        self.told("c", *of_one(ROUND, [AS]), 0, at(0), "a")
        self.told("cc", *of_one(ROUND, [AS]), 0, at(0), "aa")

    def test_a_text_through_a_sign_that_tells_nothing(self):
        self.told("b", *of_one(ROUND, [AS]), 0, at(1), "a")
        self.told("bc", *of_one(ROUND, [AS]), 0, at(1), "aa")
        reader = ("ab", "x", ((((1, ""), (0, "")), ""), (((2, ""), (0, "")), ""), (((2, "x"), (0, "xxx")), "")))
        web, frame = of_one(reader, [XS])
        self.told("aaa", web, frame, 0, at(0), "x")
        self.told("aaaa", web, frame, 0, at(0), "xx")
        self.told("aab", web, frame, 0, at(0), "xxx")
        self.told("aaaaab", web, frame, 0, at(0), "xxx" * 2)

    def test_a_dearer_text_that_leads_to_a_good_standing(self):
        self.told("bb", *of_one(DEARER, [XS]), 0, at(0), "x")
        self.told("bbbb", *of_one(DEARER, [XS]), 0, at(0), "xx")
        self.told("bb", *of_one(DEARER, [XS, XS]), 0, at(0), "x")
        web, frame = TRAPPED
        self.told("ab", web, frame, 0, at(0), "ab")
        # To the end, behind the empty word, one leads from state 0 alone.
        web, frame = of_one(PARITY, [("x", (((1,), True), ((0,), False)))] * 2)
        self.told("aa", web, frame, 0, at(0), "xx")
        web, frame = of_one(PARITY, [lot_of_words("x", ["x", "xx"])])
        self.told("b", web, frame, 0, at(0), "x")
        self.told("aa", web, frame, 0, at(0), "xx")

    def test_another_listener_has_to_go_on(self):
        web, frame = SINGLE
        self.told("bab", web, frame, 0, good(web, frame)[0][0], "bab")
        # The second listener is to hear one d: with the b behind the hole there are just two signs in all.
        web = ((("ab", "x", ((((0, ""), (0, "x")), ""),)),), (TWOS,))
        frame = (("", "b"), ((0, XS),), (("", "x"), ("dd",)))
        here = come_to(web, frame)[0][0]
        self.told("aab", web, frame, 0, here, "x")
        self.told("abb", web, frame, 0, here, "xx")
        self.told("aaa", web, frame, 0, here, "")
        self.refused(NoWay, {}, web, frame, 0, here, "xxxx")

    def test_from_a_standing_that_is_not_good(self):
        web, frame = PAIRED
        here = come_to(web, frame)[0][0]
        self.assertEqual(good(web, frame), [[]])
        self.told("bab", web, frame, 0, here, "bab")
        self.refused(NoWay, {}, web, frame, 0, here, "b")
        web, frame = of_one(DOUBLES, [XS])
        self.told("aa", web, frame, 0, at(0), "xxxx")
        self.refused(NoWay, {}, web, frame, 0, at(0), "xxx")

    def test_from_a_standing_that_is_not_come_to(self):
        web, frame = of_one(ROUND, [AS])
        self.assertEqual(come_to(web, frame), [[at(0)]])
        self.told("b", web, frame, 0, at(1), "a")
        self.refused(NoWay, {}, web, frame, 0, at(2), "a")
        self.refused(NoWay, {}, web, frame, 0, at(2), "")
        web, frame = of_one(ROUND, [AS, AS], ("", "", "a"), ("", "", "c"))
        self.told("bc", web, frame, 1, at(1), "aa")

    def test_what_leads_to_a_standing_that_is_bad_has_no_price(self):
        web, frame = of_one(PARITY, [XS, XS])
        self.told("", web, frame, 0, at(0), "")
        for word in ("x", "xx", "xxx"):
            self.refused(NoWay, {}, web, frame, 0, at(0), word)
        self.told("b", web, frame, 1, at(0), "x")
        self.told("aa", web, frame, 1, at(0), "xx")
        self.told("a", web, frame, 1, at(1), "x")

    def test_at_later_holes(self):
        web, frame = FOUR
        self.refused(NoWay, {}, web, frame, 0, at(0), "")
        self.refused(NoWay, {}, web, frame, 3, at(0), "cd")
        self.told("bb", web, frame, 3, at(0), "cddc")

    def test_refusals_in_order(self):
        web, frame = of_one(ECHO, [ALL, MIXED], ("ab", "b", ""), ("ab", "b", ""))
        self.assertTrue(is_standing(web, frame, 1, at(0, 1)))
        self.refused(NoWay, {}, web, frame, 1, at(0, 2), "no word")
        self.refused(NoWay, {}, web, frame, 1, at(0, 2), "a")
        self.refused(NoWay, {}, web, frame, 0, at(0, 1), "a")
        self.refused(NoWay, {}, web, frame, 0, None, None)
        self.refused(NoWord, {"hole": 1}, web, frame, 1, at(0, 1), "ab")
        self.refused(NoWord, {"hole": 0}, web, frame, 0, at(0, 2), "abc")
        self.told("a", web, frame, 1, at(0, 1), "a")
        # Here no word has a price, and one that is none is told ahead of that.
        web, frame = of_one(TRAP, [MIXED])
        self.refused(NoWay, {}, web, frame, 0, at(1), "a")
        self.refused(NoWord, {"hole": 0}, web, frame, 0, at(1), "aa")

    def test_things_of_other_kinds(self):
        web, frame = of_one(ECHO, [lot_of_words("ab", ["a", "ba"])])
        for thing in OTHER_THINGS + (nested(20), [at(0)], (at(0),), (((True,),), (0,)), (((False,),), (0,)),
                                     (((0,),), (False,)), ([(0,)], (0,)), (((0,),), [0]), (((1,),), (0,))):
            self.refused(NoWay, {}, web, frame, 0, thing, "a")
            self.refused(NoWay, {}, web, frame, 0, thing, thing)
            self.refused(NoWord, {"hole": 0}, web, frame, 0, at(0), thing)
        for thing in (["a"], ("a",), ["b", "a"], ("b", "a"), {"a": "a"}, "", "b", "ab", "a ", "x"):
            self.refused(NoWord, {"hole": 0}, web, frame, 0, at(0), thing)

    def test_against_a_slow_look_at_all_short_texts(self):
        told = refused = 0
        for web, frame in some_plays(71, 200):
            goods = good(web, frame) + [[True]]
            for i, those in enumerate(come_to(web, frame)):
                for here in those[:3]:
                    texts = all_texts(web[0][0][0], 4)
                    led = {text: hole_leads(web, frame, i, here, text) for text in texts}
                    for word in slow_words(frame[1][i][1], 3):
                        fit = [text for text in texts if led[text] is not None and led[text][0] == word
                               and piece_leads(web, frame, i + 1, led[text][1]) in goods[i + 1]]
                        if fit:
                            told += 1
                            self.told(fit[0], web, frame, i, here, word)
                            continue
                        try:
                            self.assertGreater(price(web, frame, i, here, word), 4)
                        except NoWay:
                            refused += 1
        self.assertGreater(told, 200)
        self.assertGreater(refused, 200)

    def test_a_standing_is_good_just_where_each_word_has_a_price(self):
        for web, frame in some_plays(72, 150):
            for i, (those, goods) in enumerate(zip(come_to(web, frame), good(web, frame))):
                for here in those[:3]:
                    words = slow_words(frame[1][i][1], 4)
                    priced = []
                    for word in words:
                        try:
                            priced.append(price(web, frame, i, here, word) >= 0)
                        except NoWay:
                            priced.append(False)
                    self.assertTrue(all(priced) or here not in goods)


class TestWriter(unittest.TestCase):
    def stands(self, writer, web, frame, words, texts):
        """All that the writer tells is as behind these words and texts, also where the asker changes it."""
        for _ in range(2):
            told = (writer.words(), writer.texts())
            self.assertEqual(told, (list(words), list(texts)))
            for part in told:
                self.assertIsInstance(part, list)
                part.append("changed")
                part.reverse()
        pieces = frame[0]
        self.assertEqual(writer.text(), "".join([piece + text for piece, text in zip(pieces, texts)])
                         + pieces[len(texts)])
        self.assertEqual(writer.signs(), sum([len(text) for text in texts]))
        here = piece_leads(web, frame, 0, None)
        for i, text in enumerate(texts):
            here = piece_leads(web, frame, i + 1, hole_leads(web, frame, i, here, text)[1])
        if len(words) < len(frame[1]):
            self.assertEqual(writer.standing(), here)
        else:
            self.assertIs(writer.standing(), None)
            self.assertIs(here, True)
            self.assertIs(wrong_at(web, frame, tuple(words), tuple(texts)), None)
            self.assertEqual(writer.text(), whole(frame, tuple(texts)))

    def refused(self, refusal, fields, told, *things):
        ahead = copy.deepcopy(things)
        with self.assertRaises(HoleError) as caught:
            told(*things)
        self.assertIs(type(caught.exception), refusal)
        self.assertEqual(vars(caught.exception), fields)
        self.assertEqual(things, ahead)

    def test_none_where_the_foe_wins(self):
        for web, frame in [PAIRED, FOUR, of_one(DOUBLES, [XS]), of_one(ECHO, [ALL], ("a", "")),
                           of_one(ECHO, [], ("a",), ("b",))]:
            self.refused(NoWay, {}, Writer, web, frame)

    def test_one_just_where_the_writer_wins(self):
        for web, frame in some_plays(73, 200):
            with self.subTest(web=web, frame=frame):
                if writer_wins(web, frame):
                    self.stands(Writer(web, frame), web, frame, [], [])
                else:
                    self.refused(NoWay, {}, Writer, web, frame)

    def test_words_one_by_one_to_the_end(self):
        web, frame = of_one(ECHO, [ALL, MIXED, ALL], ("a", "b", "", "ab"), ("a", "b", "", "ab"))
        writer = Writer(web, frame)
        self.stands(writer, web, frame, [], [])
        self.assertEqual(writer.text(), "a")
        self.assertEqual(writer.standing(), at(0, 1))
        self.assertEqual(writer.write("ba"), "ba")
        self.stands(writer, web, frame, ["ba"], ["ba"])
        self.assertEqual(writer.text(), "abab")
        self.assertEqual(writer.write("baa"), "baa")
        self.stands(writer, web, frame, ["ba", "baa"], ["ba", "baa"])
        self.assertEqual(writer.write(""), "")
        self.stands(writer, web, frame, ["ba", "baa", ""], ["ba", "baa", ""])
        self.assertEqual(writer.text(), "ababbaaab")
        self.assertEqual(writer.signs(), 5)

    def test_the_texts_are_those_of_text_for(self):
        written = 0
        chance = random.Random(74)
        for web, frame in some_plays(75, 400):
            if not writer_wins(web, frame):
                continue
            writer = Writer(web, frame)
            words, texts = [], []
            for i, (_, lot) in enumerate(frame[1]):
                word = chance.choice(slow_words(lot, 5))
                due = text_for(web, frame, i, writer.standing(), word)
                self.assertEqual(writer.write(word), due)
                words.append(word)
                texts.append(due)
                self.stands(writer, web, frame, words, texts)
                written += 1
        self.assertGreater(written, 100)

    def test_refused_words_change_nothing(self):
        web, frame = of_one(ECHO, [MIXED, ALL])
        writer = Writer(web, frame)
        for thing in OTHER_THINGS + (nested(20), "aa", "ba ", "ab", ["a"], ("a",), ("b", "a", "a")):
            if thing != "b":
                self.refused(NoWord, {"hole": 0}, writer.write, thing)
        self.stands(writer, web, frame, [], [])
        writer.write("a")
        self.refused(NoWord, {"hole": 1}, writer.write, "c")
        self.refused(NoWord, {"hole": 1}, writer.write, None)
        self.stands(writer, web, frame, ["a"], ["a"])
        self.assertEqual(writer.write("bb"), "bb")

    def test_no_hole_goes_ahead_of_no_word(self):
        web, frame = of_one(ECHO, [MIXED])
        writer = Writer(web, frame)
        writer.write("a")
        for thing in ("a", "aa", "c", None, 0, [], True):
            self.refused(NoHole, {}, writer.write, thing)
        self.stands(writer, web, frame, ["a"], ["a"])

    def test_frames_without_holes(self):
        web, frame = of_one(ECHO, [], ("ab",), ("ab",))
        writer = Writer(web, frame)
        self.stands(writer, web, frame, [], [])
        self.assertEqual(writer.text(), "ab")
        self.refused(NoHole, {}, writer.write, "")
        self.refused(NoNumber, {}, writer.take_back, 1)
        writer.take_back(0)
        self.stands(writer.fork(), web, frame, [], [])

    def test_take_back(self):
        web, frame = of_one(ECHO, [ALL, ALL, ALL], ("a", "b", "", ""), ("a", "b", "", ""))
        writer = Writer(web, frame)
        words = ["a", "bb", "aba"]
        for word in words:
            writer.write(word)
        self.assertIs(writer.take_back(0), None)
        self.stands(writer, web, frame, words, words)
        self.assertIs(writer.take_back(1), None)
        self.stands(writer, web, frame, words[:2], words[:2])
        writer.write("")
        self.stands(writer, web, frame, ["a", "bb", ""], ["a", "bb", ""])
        writer.take_back(3)
        self.stands(writer, web, frame, [], [])
        writer.take_back(0)
        writer.write("b")
        writer.write("ab")
        writer.take_back(2)
        self.stands(writer, web, frame, [], [])

    def test_take_back_of_no_number(self):
        web, frame = of_one(ECHO, [ALL, ALL])
        writer = Writer(web, frame)
        self.refused(NoNumber, {}, writer.take_back, 1)
        self.refused(NoNumber, {}, writer.take_back, False)
        writer.write("ab")
        for thing in (2, 3, -1, -2, True, False, None, "1", "", (1,), [1], {1: 1}, 10 ** 59, -10 ** 59, nested(20)):
            self.refused(NoNumber, {}, writer.take_back, thing)
        self.stands(writer, web, frame, ["ab"], ["ab"])
        writer.write("b")
        self.refused(NoNumber, {}, writer.take_back, 3)
        self.refused(NoNumber, {}, writer.take_back, True)
        self.stands(writer, web, frame, ["ab", "b"], ["ab", "b"])

    def test_forks_go_on_and_back_each_for_itself(self):
        web, frame = of_one(ECHO, [ALL, ALL, ALL], ("a", "b", "", ""), ("a", "b", "", ""))
        first = Writer(web, frame)
        first.write("ab")
        second = first.fork()
        self.assertIsInstance(second, Writer)
        self.assertIsNot(second, first)
        self.stands(second, web, frame, ["ab"], ["ab"])
        first.write("b")
        second.write("aa")
        third = second.fork()
        second.write("")
        second.take_back(3)
        self.stands(first, web, frame, ["ab", "b"], ["ab", "b"])
        self.stands(second, web, frame, [], [])
        self.stands(third, web, frame, ["ab", "aa"], ["ab", "aa"])
        third.take_back(1)
        third.write("bbb")
        third.write("a")
        first.take_back(2)
        second.write("b")
        self.stands(first, web, frame, [], [])
        self.stands(second, web, frame, ["b"], ["b"])
        self.stands(third, web, frame, ["ab", "bbb", "a"], ["ab", "bbb", "a"])
        self.refused(NoHole, {}, third.write, "a")
        self.refused(NoWord, {"hole": 1}, second.write, "c")

    def test_by_chance_filled_its_whole_text_is_well(self):
        filled = 0
        chance = random.Random(76)
        for web, frame in some_plays(77, 300):
            if not writer_wins(web, frame):
                continue
            writers = [(Writer(web, frame), [])]
            for _ in range(12):
                writer, words = chance.choice(writers)
                deed = chance.randrange(5)
                if deed == 0:
                    many = chance.randint(0, len(words))
                    writer.take_back(many)
                    del words[len(words) - many:]
                elif deed == 1:
                    writers.append((writer.fork(), list(words)))
                elif len(words) < len(frame[1]):
                    words.append(chance.choice(slow_words(frame[1][len(words)][1], 5)))
                    writer.write(words[-1])
                for other, known in writers:
                    self.assertEqual(other.words(), known)
            for writer, words in writers:
                self.stands(writer, web, frame, words, writer.texts())
                filled += len(words) == len(frame[1])
        self.assertGreater(filled, 50)


class TestSamples(unittest.TestCase):
    def test_they_are_what_they_are_called(self):
        for reader in (ROUND, DEARER, TRAP, PARITY, DOUBLES):
            self.assertTrue(is_web(((reader,),)))
        self.assertTrue(is_frame(*of_one(ROUND, [AS])))
        self.assertTrue(is_word(AS, "aaa"))


if __name__ == "__main__":
    unittest.main()
