"""The names and arguments that the document's interface lists."""

import importlib
import inspect
import unittest

LISTED = {
    "foeholes.readers": (
        ("is_reader", "(thing)"),
        ("read_on", "(reader, text, *, state=0)"),
        ("telling", "(reader, text)"),
        ("goes_along", "(one, other)"),
    ),
    "foeholes.rows": (
        ("is_row", "(thing)"),
        ("is_web", "(thing)"),
        ("row_on", "(row, text, *, states=None)"),
        ("row_end", "(row, states)"),
        ("row_telling", "(row, text)"),
        ("as_one", "(row)"),
        ("heard_by", "(web, text)"),
    ),
    "foeholes.lots": (
        ("is_lot", "(thing)"),
        ("is_word", "(lot, text)"),
        ("how_many", "(lot, length)"),
        ("first_word", "(lot)"),
        ("is_endless", "(lot)"),
    ),
    "foeholes.frames": (
        ("is_frame", "(web, thing)"),
        ("due_tellings", "(web, frame, words)"),
        ("whole", "(frame, texts)"),
        ("wrong_at", "(web, frame, words, texts)"),
    ),
    "foeholes.standings": (
        ("piece_leads", "(web, frame, i, standing)"),
        ("hole_leads", "(web, frame, i, standing, text)"),
        ("behind", "(web, frame, i, standing, word)"),
        ("come_to", "(web, frame)"),
        ("is_standing", "(web, frame, i, thing)"),
    ),
}


class TestInterface(unittest.TestCase):
    def test_each_def_stands_in_its_file_with_its_arguments(self):
        for module, names in LISTED.items():
            for name, arguments in names:
                with self.subTest(module=module, name=name):
                    told = getattr(importlib.import_module(module), name)
                    self.assertTrue(inspect.isfunction(told))
                    self.assertEqual(told.__module__, module)
                    self.assertEqual(str(inspect.signature(told)), arguments)
