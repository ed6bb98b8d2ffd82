"""The refusals: what they stand under and what they tell."""

import unittest

from foeholes import errors
from foeholes.errors import (
    Full, Held, HoleError, NoBook, NoFrame, NoGuide, NoHole, NoName, NoNumber, NoReader, NoWay, NoWeb, NoWord, Taken,
)

WITH_A_FIELD = ((NoWord, "hole"), (NoName, "name"), (Taken, "name"), (Held, "name"), (Full, "most"))
OF_A_TEXT = (NoWay, NoHole, NoNumber, NoBook, NoGuide, NoReader, NoWeb, NoFrame)
ALL = tuple(each for each, _ in WITH_A_FIELD) + OF_A_TEXT


class TestFamily(unittest.TestCase):
    def test_any_refusal_is_a_value_error(self):
        self.assertEqual(HoleError.__bases__, (ValueError,))

    def test_thirteen_stand_right_under_it(self):
        self.assertEqual(len(ALL), 13)
        self.assertCountEqual(HoleError.__subclasses__(), ALL)
        for each in ALL:
            with self.subTest(each=each.__name__):
                self.assertEqual(each.__bases__, (HoleError,))

    def test_none_stands_under_another(self):
        for one in ALL:
            self.assertEqual(one.__subclasses__(), [])
            for other in ALL:
                self.assertEqual(issubclass(one, other), one is other)

    def test_each_is_defined_in_its_file(self):
        for each in (HoleError, *ALL):
            self.assertEqual(each.__module__, "foeholes.errors")
            self.assertIs(getattr(errors, each.__name__), each)

    def test_each_is_caught_as_any_refusal_and_as_itself_alone(self):
        for each in ALL:
            with self.assertRaises(HoleError):
                raise each("text")
            with self.assertRaises(ValueError):
                raise each("text")
            with self.assertRaises(each):
                raise each("text")


class TestFields(unittest.TestCase):
    def test_the_field_is_what_was_handed_in(self):
        for each, field in WITH_A_FIELD:
            for thing in (0, 3, -1, 10 ** 59, True, False, None, "", "abc", (1, ("a", None)), [1, [2]], {"a": [True]}):
                with self.subTest(each=each.__name__, thing=thing):
                    told = getattr(each(thing), field)
                    self.assertEqual(told, thing)
                    self.assertIs(type(told), type(thing))

    def test_truths_and_numbers_within_lists_stay_what_they_are(self):
        told = NoName([True, 1, (False, 0), {"a": None}]).name
        self.assertEqual(repr(told), "[True, 1, (False, 0), {'a': None}]")

    def test_the_argument_may_be_named(self):
        for each, field in WITH_A_FIELD:
            self.assertEqual(getattr(each(**{field: "abc"}), field), "abc")

    def test_there_is_no_other_field(self):
        for each, field in WITH_A_FIELD:
            self.assertEqual(vars(each(4)), {field: 4})

    def test_a_field_is_asked_for(self):
        for each, _ in WITH_A_FIELD:
            self.assertRaises(TypeError, each)
            self.assertRaises(TypeError, each, 1, 2)

    def test_what_is_done_to_the_thing_later_changes_nothing(self):
        for each, field in WITH_A_FIELD:
            inner, table = [1], {"k": [2]}
            thing = [inner, (table,), table]
            error = each(thing)
            inner.append(5)
            table["k"].append(6)
            table["new"] = 7
            thing.clear()
            self.assertEqual(getattr(error, field), [[1], ({"k": [2]},), {"k": [2]}])

    def test_what_is_done_to_the_field_does_not_change_the_thing(self):
        for each, field in WITH_A_FIELD:
            thing = {"a": [1]}
            getattr(each(thing), field)["a"].append(2)
            self.assertEqual(thing, {"a": [1]})

    def test_the_thing_is_not_kept_beside_the_field(self):
        for each, _ in WITH_A_FIELD:
            thing = [1]
            self.assertNotIn(thing, each(thing).args)

    def test_the_message_is_a_text(self):
        for each, _ in WITH_A_FIELD:
            self.assertNotEqual(str(each("abc")), "")


class TestTexts(unittest.TestCase):
    def test_the_others_are_made_of_a_text(self):
        for each in (HoleError, *OF_A_TEXT):
            self.assertEqual(str(each("why it is so")), "why it is so")
            self.assertEqual(vars(each("why it is so")), {})
