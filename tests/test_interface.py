"""The names and arguments that the document's interface lists."""

import importlib
import inspect
import unittest

LISTED = {
    "foeholes.readers": (
        ("is_reader", "(thing)"),
        ("read_on", "(reader, text, *, state=0)"),
        ("telling", "(reader, text)"),
        ("goes_along", "(one, other)"),
    ),
    "foeholes.rows": (
        ("is_row", "(thing)"),
        ("is_web", "(thing)"),
        ("row_on", "(row, text, *, states=None)"),
        ("row_end", "(row, states)"),
        ("row_telling", "(row, text)"),
        ("as_one", "(row)"),
        ("heard_by", "(web, text)"),
    ),
    "foeholes.lots": (
        ("is_lot", "(thing)"),
        ("is_word", "(lot, text)"),
        ("how_many", "(lot, length)"),
        ("first_word", "(lot)"),
        ("is_endless", "(lot)"),
    ),
    "foeholes.frames": (
        ("is_frame", "(web, thing)"),
        ("due_tellings", "(web, frame, words)"),
        ("whole", "(frame, texts)"),
        ("wrong_at", "(web, frame, words, texts)"),
    ),
    "foeholes.standings": (
        ("piece_leads", "(web, frame, i, standing)"),
        ("hole_leads", "(web, frame, i, standing, text)"),
        ("behind", "(web, frame, i, standing, word)"),
        ("come_to", "(web, frame)"),
        ("is_standing", "(web, frame, i, thing)"),
    ),
    "foeholes.winning": (
        ("writer_wins", "(web, frame)"),
        ("good", "(web, frame)"),
        ("is_shield", "(web, frame, thing)"),
    ),
    "foeholes.writing": (
        ("price", "(web, frame, i, standing, word)"),
        ("text_for", "(web, frame, i, standing, word)"),
    ),
    "foeholes.foe": (
        ("is_winning", "(web, frame, thing)"),
        ("book", "(web, frame)"),
        ("played", "(web, frame, book, answer)"),
    ),
    "foeholes.makers": (
        ("is_maker", "(web, frame, i, thing)"),
        ("written", "(maker, lot, word)"),
        ("wrong_word", "(web, frame, i, standing, maker)"),
    ),
    "foeholes.weaving": (
        ("woven", "(web, dues)"),
    ),
    "foeholes.guides": (
        ("guide", "(web, frame)"),
        ("is_guide", "(web, frame, thing)"),
        ("guided", "(web, frame, guide, i, standing, word)"),
    ),
}

CLASSES = {
    ("foeholes.writing", "Writer"): (
        ("__init__", "(self, web, frame)"),
        ("write", "(self, word)"),
        ("words", "(self)"),
        ("texts", "(self)"),
        ("text", "(self)"),
        ("standing", "(self)"),
        ("signs", "(self)"),
        ("take_back", "(self, many)"),
        ("fork", "(self)"),
    ),
    ("foeholes.shelf", "Shelf"): (
        ("__init__", "(self)"),
        ("put", "(self, name, reader)"),
        ("exchange", "(self, name, reader)"),
        ("lay", "(self, name, rows, frame)"),
        ("edit", "(self, name, i, piece)"),
        ("drop", "(self, name)"),
        ("undo", "(self)"),
        ("readers", "(self)"),
        ("frames", "(self)"),
        ("looked", "(self)"),
        ("reader", "(self, name)"),
        ("web_and_frame", "(self, name)"),
        ("writer_wins", "(self, name)"),
        ("book", "(self, name)"),
        ("writer", "(self, name)"),
        ("__eq__", "(self, other)"),
    ),
}


class TestInterface(unittest.TestCase):
    def test_each_def_stands_in_its_file_with_its_arguments(self):
        for module, names in LISTED.items():
            for name, arguments in names:
                with self.subTest(module=module, name=name):
                    told = getattr(importlib.import_module(module), name)
                    self.assertTrue(inspect.isfunction(told))
                    self.assertEqual(told.__module__, module)
                    self.assertEqual(str(inspect.signature(told)), arguments)

    def test_each_class_stands_in_its_file_with_its_own_methods(self):
        for (module, name), methods in CLASSES.items():
            told = getattr(importlib.import_module(module), name)
            self.assertTrue(inspect.isclass(told))
            self.assertEqual(told.__module__, module)
            for method, arguments in methods:
                with self.subTest(module=module, name=name, method=method):
                    self.assertEqual(str(inspect.signature(vars(told)[method])), arguments)
