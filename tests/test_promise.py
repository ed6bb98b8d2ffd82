"""What the document's third point promises of all webs and frames, and of those that are changed in some one way."""

import random
import unittest

from foeholes.foe import book, is_winning
from foeholes.frames import is_frame
from foeholes.guides import guide, is_guide
from foeholes.readers import goes_along, is_reader
from foeholes.rows import is_web
from foeholes.shelf import Shelf
from foeholes.standings import come_to, piece_leads
from foeholes.winning import good, is_shield, writer_wins
from foeholes.writing import Writer, price, text_for
from tests.frame_samples import slow_words
from tests.play_samples import some_plays


def loosened(chance, reader):
    """A reader that lets more texts by, and tells other things where the first one lets none by any more."""
    reads, tells, states = reader
    hopeful = {k for k, (_, end) in enumerate(states) if end is not None}
    for _ in states:
        hopeful |= {k for k, (ways, _) in enumerate(states) if any(after in hopeful for after, _ in ways)}
    changed = []
    for ways, end in states:
        ways = tuple([(after, told) if after in hopeful else (chance.randrange(len(states)), chance.choice(tells))
                      for after, told in ways])
        changed.append((ways, chance.choice(("", None, tells[-1])) if end is None else end))
    return (reads, tells, tuple(changed))


def exchanged(web, row, at, reader):
    """The web with another reader at a place of one row."""
    rows = [list(part) for part in web]
    rows[row][at] = reader
    return tuple([tuple(part) for part in rows])


class TestAnExchange(unittest.TestCase):
    def test_for_a_reader_that_goes_along(self):
        chance = random.Random(91)
        changed = prices = 0
        for web, frame in some_plays(92, 500):
            if not writer_wins(web, frame):
                continue
            row = chance.randrange(len(web))
            at = chance.randrange(len(web[row]))
            other = loosened(chance, web[row][at])
            self.assertTrue(is_reader(other))
            self.assertTrue(goes_along(web[row][at], other))
            changed += other != web[row][at]
            after = exchanged(web, row, at, other)
            self.assertTrue(is_web(after) and is_frame(after, frame))
            with self.subTest(web=web, frame=frame, after=after):
                self.assertTrue(writer_wins(after, frame))
                if frame[1]:
                    here = piece_leads(web, frame, 0, None)
                    self.assertEqual(piece_leads(after, frame, 0, None), here)
                    for word in slow_words(frame[1][0][1], 3):
                        prices += 1
                        self.assertLessEqual(price(after, frame, 0, here, word), price(web, frame, 0, here, word))
        self.assertGreater(changed, 30)
        self.assertGreater(prices, 100)


# All signs of some_plays, each for another one, in order.
OTHERS = str.maketrans("abcuvxy", "#5Ddmp~")


def with_other_signs(thing):
    """The thing with each sign of a text exchanged for another one, in order."""
    if isinstance(thing, str):
        return thing.translate(OTHERS)
    if isinstance(thing, dict):
        return {with_other_signs(key): with_other_signs(thing[key]) for key in thing}
    if isinstance(thing, (tuple, list)):
        return type(thing)([with_other_signs(part) for part in thing])
    return thing


def turned_round(web, frame):
    """The web and frame with the rows in another order."""
    pieces, holes, dues = frame
    last = len(web) - 1
    return web[::-1], (pieces, tuple([(last - k, lot) for k, lot in holes]), dues[::-1])


def standing_round(standing):
    return (standing[0][::-1], standing[1][::-1])


class TestTheSame(unittest.TestCase):
    def test_with_other_signs(self):
        for web, frame in some_plays(93, 200):
            others = (with_other_signs(web), with_other_signs(frame))
            self.assertTrue(is_web(others[0]) and is_frame(*others))
            with self.subTest(web=web, frame=frame):
                self.assertEqual(writer_wins(*others), writer_wins(web, frame))
                self.assertEqual(good(*others), good(web, frame))
                self.assertEqual(book(*others), with_other_signs(book(web, frame)))
                self.assertIs(is_shield(*others, good(web, frame)), writer_wins(web, frame))
                if writer_wins(web, frame):
                    writers = (Writer(web, frame), Writer(*others))
                    for _, lot in frame[1]:
                        word = slow_words(lot, 4)[-1]
                        due = with_other_signs(writers[0].write(word))
                        self.assertEqual(writers[1].write(with_other_signs(word)), due)
                        self.assertEqual(writers[1].standing(), writers[0].standing())

    def test_with_the_rows_in_another_order(self):
        tried = 0
        for web, frame in some_plays(94, 300):
            if len(web) == 1:
                continue
            tried += 1
            others = turned_round(web, frame)
            self.assertTrue(is_web(others[0]) and is_frame(*others))
            with self.subTest(web=web, frame=frame):
                self.assertEqual(writer_wins(*others), writer_wins(web, frame))
                self.assertEqual(good(*others), [sorted([standing_round(here) for here in part])
                                                 for part in good(web, frame)])
                found = book(web, frame)
                if found is None:
                    self.assertIs(book(*others), None)
                    continue
                due = {(i, standing_round(here)): word for (i, here), word in found.items()}
                self.assertEqual(book(*others), due)
                self.assertTrue(is_winning(*others, due))
        self.assertGreater(tried, 100)

    def test_prices_with_the_rows_in_another_order(self):
        for web, frame in some_plays(95, 100):
            others = turned_round(web, frame)
            for i, part in enumerate(good(web, frame)):
                for here in part:
                    for word in slow_words(frame[1][i][1], 2):
                        self.assertEqual(text_for(*others, i, standing_round(here), word),
                                         text_for(web, frame, i, here, word))


class TestOnePaperOfTwo(unittest.TestCase):
    def test_a_guide_or_a_book_and_never_both(self):
        for web, frame in some_plays(96, 400):
            words, tables = book(web, frame), guide(web, frame)
            with self.subTest(web=web, frame=frame):
                won = writer_wins(web, frame)
                self.assertEqual((words is None, tables is None), (won, not won))
                self.assertEqual((is_winning(web, frame, words), is_guide(web, frame, tables)), (not won, won))
                self.assertIs(is_shield(web, frame, good(web, frame)), won)

    def test_no_guide_holds_where_a_book_wins(self):
        chance = random.Random(97)
        for web, frame in some_plays(98, 200):
            lists = come_to(web, frame)
            words = {(i, here): chance.choice(slow_words(frame[1][i][1], 2) or [""])
                     for i, part in enumerate(lists) for here in part}
            tables = guide(web, frame)
            self.assertFalse(tables is not None and is_winning(web, frame, words))


class TestTheShelf(unittest.TestCase):
    def laid(self, web, frame):
        """A shelf with one frame, f, and a name for each place of its rows."""
        shelf = Shelf()
        rows = tuple([tuple(["r" + "xyz"[k] + "xyz"[j] for j in range(len(row))]) for k, row in enumerate(web)])
        for names, row in zip(rows, web):
            for name, reader in zip(names, row):
                shelf.put(name, reader)
        shelf.lay("f", rows, frame)
        return shelf

    def test_it_tells_what_is_told_of_the_web_and_frame(self):
        for web, frame in some_plays(100, 150):
            shelf = self.laid(web, frame)
            for _ in range(2):
                self.assertEqual(shelf.web_and_frame("f"), (web, frame))
                self.assertIs(shelf.writer_wins("f"), writer_wins(web, frame))
                self.assertEqual(shelf.book("f"), book(web, frame))
            self.assertEqual(shelf, self.laid(web, frame))

    def test_what_the_writer_wins_it_wins_still_where_readers_go_along(self):
        chance = random.Random(101)
        exchanges = 0
        for web, frame in some_plays(102, 300):
            shelf = self.laid(web, frame)
            shelf.looked()
            if not shelf.writer_wins("f"):
                continue
            for name in shelf.readers():
                reader = shelf.reader(name)
                other = loosened(chance, reader)
                shelf.exchange(name, other)
                exchanges += other != reader
                self.assertIs(shelf.writer_wins("f"), True)
                self.assertIs(shelf.book("f"), None)
                self.assertEqual(shelf.looked(), [] if other == reader else ["f"])
            self.assertEqual([shelf.undo() for _ in shelf.readers()], ["exchange"] * len(shelf.readers()))
            self.assertEqual(shelf.web_and_frame("f"), (web, frame))
        self.assertGreater(exchanges, 20)


if __name__ == "__main__":
    unittest.main()
