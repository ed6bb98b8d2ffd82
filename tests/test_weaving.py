"""Weaving: the least text that each listener hears as its own."""

import copy
import random
import unittest

from foeholes.rows import heard_by, is_web
from foeholes.weaving import woven
from tests.frame_samples import ECHO, ONLY_A, QUIET, TURNS, TWOS
from tests.play_samples import busy_reader, drowsy_reader
from tests.samples import PAIRS, SHUT, THREES, all_texts, one_state, slow_row_telling

# Tells an x behind the third sign and each further one.
THIRD = ("ab", "x", ((((1, ""), (1, "")), ""), (((2, ""), (2, "")), ""), (((2, "x"), (2, "x")), "")))


class TestWoven(unittest.TestCase):
    def told(self, text, web, dues):
        with self.subTest(web=web, dues=dues):
            self.assertTrue(is_web(web))
            ahead = copy.deepcopy((web, dues))
            self.assertEqual(woven(web, dues), text)
            self.assertEqual((web, dues), ahead)
            if text is not None:
                self.assertEqual(heard_by(web, text), dues)

    def test_one_listener(self):
        self.told("abba", ((ECHO,),), ("abba",))
        self.told("ab" * 10, ((ECHO,),), ("ab" * 10,))
        self.told("bb", ((PAIRS,),), ("cc",))
        self.told("bab", ((PAIRS,),), ("ccc",))
        self.told("a" * 20, ((ONLY_A,),), ("c" * 20,))
        self.told("a", ((PAIRS, THREES),), ("y",))
        self.told("aaaa", ((PAIRS, THREES),), ("zy",))
        self.told("aabb", ((PAIRS, THREES),), ("zzy",))

    def test_two_and_three_listeners(self):
        self.told("aba", ((ECHO,), (ONLY_A,)), ("aba", "cc"))
        self.told(None, ((ECHO,), (ONLY_A,)), ("aba", "ccc"))
        self.told("abbaab", ((ECHO,), (ONLY_A,), (TWOS,)), ("abbaab", "ccc", "ddd"))
        self.told("aabb", ((ONLY_A,), (TWOS,), (one_state("ab", "x", "x"),)), ("cc", "dd", "xxxx"))
        self.told(None, ((ONLY_A,), (TWOS,), (one_state("ab", "x", "x"),)), ("cc", "dd", "xxx"))
        self.told("aa", ((ONLY_A,), (one_state("ab", "x", "x"),), (TWOS,)), ("cc", "xx", "d"))
        self.told(None, ((ONLY_A,), (one_state("ab", "x", "x"),), (TWOS,)), ("ccc", "xx", "d"))

    def test_the_empty_text(self):
        self.told("", ((ECHO,),), ("",))
        self.told("", ((ECHO,), (ONLY_A,), (TWOS,)), ("", "", ""))
        self.told("", ((TURNS,),), ("c",))
        self.told("a", ((TURNS,), (one_state("ab", "x", "x"),)), ("c", "x"))

    def test_none(self):
        self.told(None, ((PAIRS,),), ("dc",))
        self.told(None, ((ONLY_A,), (ONLY_A,)), ("c", "cc"))
        self.told(None, ((QUIET,),), ("c",))
        self.told(None, ((ECHO,), (ECHO,)), ("ab", "ba"))
        self.told(None, ((TURNS,),), ("",))
        self.told(None, ((TURNS,),), ("cc",))

    def test_ends_that_tell(self):
        self.told("b", ((TURNS,),), ("cdd",))
        self.told("bb", ((TURNS,),), ("cddcc",))
        self.told(None, ((TURNS,),), ("cd",))
        self.told("", ((one_state("ab", "xy", "x", "yyy"),),), ("yyy",))
        self.told("aa", ((one_state("ab", "xy", "x", "y"),),), ("xxy",))
        # The end of the first reader is read by the second one, whose end comes behind.
        self.told("a", ((one_state("ab", "ab", "", "ab"), ECHO), (one_state("ab", "x", "x"),)), ("ab", "x"))

    def test_an_end_that_tells_as_much_as_ways_would(self):
        reader = ("a", "x", ((((1, "x"),), ""), (((1, "x"),), "xxx")))
        self.told("a", ((reader,),), ("xxxx",))
        self.told("aa", ((reader,),), ("xxxxx",))
        self.told(None, ((reader,),), ("xx",))

    def test_a_listener_that_is_not_let_by(self):
        self.told(None, ((SHUT,),), ("",))
        self.told(None, ((SHUT,),), ("cd",))
        self.told(None, ((ECHO,), (SHUT,)), ("ab", "cd"))
        self.told(None, ((TWOS,), (one_state("ab", "x", "x"),)), ("d", "xxx"))
        self.told("aa", ((TWOS,), (one_state("ab", "x", "x"),)), ("d", "xx"))

    def test_the_least_of_two_of_one_length(self):
        self.told("aaa", ((one_state("ab", "x", "x"),),), ("xxx",))
        by_turns = ("ab", "c", ((((1, ""), (0, "c")), ""), (((0, "cc"), (1, "")), None)))
        self.told("aab", ((one_state("ab", "x", "x"),), (by_turns,)), ("xxx", "ccc"))
        self.told("aba", ((one_state("ab", "x", "x"),), (by_turns,)), ("xxx", "cc"))
        self.told("aab", ((ONLY_A,), (one_state("ab", "x", "x"),)), ("cc", "xxx"))

    def test_a_shorter_one_goes_ahead_of_one_sorted_ahead(self):
        self.told("b", ((("ab", "x", ((((0, "x"), (0, "xx")), ""),)),),), ("xx",))
        self.told("ab", ((("ab", "x", ((((0, "x"), (0, "xx")), ""),)),), (THIRD,)), ("xxx", ""))
        self.told("aab", ((("ab", "x", ((((0, "x"), (0, "xx")), ""),)),), (THIRD,)), ("xxxx", "x"))

    def test_signs_that_tell_nothing_and_lead_in_a_ring(self):
        self.told("", ((QUIET,),), ("",))
        self.told(None, ((QUIET,), (QUIET,)), ("", "c"))
        # It lets by behind two more than a multiple of three alone.
        ring = ("a", "x", ((((1, ""),), None), (((2, ""),), None), (((0, ""),), "x")))
        self.told("aa", ((ring,),), ("x",))
        self.told(None, ((ring,),), ("",))
        other = ("a", "x", tuple([((((k + 1) % 5, ""),), "" if k == 4 else None) for k in range(5)]))
        self.told("a" * 14, ((ring,), (other,)), ("x", ""))

    def test_long_ones(self):
        rings = [("a", "x", tuple([((((k + 1) % many, ""),), "x" if k == many - 1 else None) for k in range(many)]))
                 for many in (6, 5)]
        ones = (("a", "x", tuple([((((k + 1) % 4, "x" if k == 3 else ""),), "") for k in range(4)])),)
        self.told("a" * 59, ((rings[0],), (rings[1],), ones), ("x", "x", "x" * 14))
        self.told(None, ((rings[0],), (rings[1],), ones), ("x", "x", "x" * 15))

    def test_against_a_slow_look_at_all_short_texts(self):
        chance = random.Random(111)
        told = 0
        for _ in range(300):
            web = tuple([(chance.choice((busy_reader, drowsy_reader))(chance, "ab", "xy", chance.randint(1, 3)),)
                         for _ in range(chance.randint(1, 3))])
            texts = all_texts("ab", 6)
            heard = [tuple([slow_row_telling(row, text) for row in web]) for text in texts]
            for at in [chance.randrange(len(texts)) for _ in range(3)]:
                if None not in heard[at]:
                    told += 1
                    self.told(texts[heard.index(heard[at])], web, heard[at])
            dues = tuple([chance.choice(("", "x", "xy", "xx", "yyx")) for _ in web])
            if dues not in heard:
                found = woven(web, dues)
                self.assertTrue(found is None or len(found) > 6 and heard_by(web, found) == dues)
        self.assertGreater(told, 300)


if __name__ == "__main__":
    unittest.main()
