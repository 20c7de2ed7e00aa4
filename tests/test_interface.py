"""The interface: each name stands in its file, with its arguments, as the document lists it."""

import ast
import importlib
import inspect
import pathlib
import unittest

PACKAGE = pathlib.Path(__file__).resolve().parent.parent / "onehistory"

FUNCTIONS = {
    "names": {"is_name": "(thing)", "is_path": "(thing)", "is_signs": "(thing)", "parted": "(path)",
              "joined": "(steps, *, top=False)"},
    "changes": {"is_change": "(thing)"},
    "tree": {"beneath": "(tree, thing)"},
    "rows": {"tree_at": "(row, moment=None)", "is_entry": "(thing)"},
    "roads": {"road_of": "(tree, path, *, at=0, held=False, follow=True)",
              "place_of": "(tree, path, *, at=0, held=False)",
              "is_road": "(tree, path, thing, *, at=0, held=False, follow=True)"},
    "globs": {"is_pattern": "(thing)", "fits": "(pattern, path)", "globbed": "(tree, pattern, *, at=0)",
              "walked": "(tree, *, at=0)"},
    "walks": {"lets_walk": "(row, thing, *, at=0)"},
    "views": {"view_of": "(tree, thing, *, beneath=True)", "differences": "(one, other)", "put_on": "(view, notes)",
              "notes_between": "(row, thing, start, end, *, beneath=True)"},
    "locks": {"bars": "(one, other)"},
    "rings": {"rings": "(locks)", "waits_for": "(locks)", "to_give_way": "(locks)", "is_ring": "(locks, thing)"},
    "recipes": {"broken_fall": "(word)"},
    "archives": {"packed": "(tree, folder=0, *, only=None)", "unpacked": "(house, path, text, *, at=0, held=False)",
                 "whole_rows": "(text)"},
    "records": {"are_records": "(thing)", "knows": "(record, other)"},
    "folding": {"tree_of": "(records)", "identities_of": "(records)"},
    "hands": {"meet": "(one, other)", "lead": "(house, hand)"},
    "judge": {"amiss": "(record, paper)", "lets_record": "(record, paper)"},
    "texts": {"shown": "(rows)", "read_rows": "(text)"},
}
AT = ", *, at=0, held=False)"
CLASSES = {
    ("tree", "Tree"): {
        "__init__": "(self)", "do": "(self, change)", "can": "(self, thing)", "kind": "(self, thing)",
        "names": "(self, folder)", "text": "(self, file)", "target": "(self, link)", "mark": "(self, thing)",
        "turns": "(self, folder)", "last": "(self)", "places": "(self, thing)", "things": "(self)", "loose": "(self)",
        "parent": "(self, folder)", "twin": "(self)", "__eq__": "(self, other)", "__len__": "(self)", "__repr__": "(self)",
    },
    ("rows", "History"): {
        "__init__": "(self, row=())", "put": "(self, entry)", "at": "(self, moment)", "twin": "(self)", "__len__": "(self)",
    },
    ("roads", "Road"): {
        "steps": "(self)", "found": "(self)", "__eq__": "(self, other)", "__len__": "(self)", "__repr__": "(self)",
    },
    ("going", "Going"): {
        "__init__": "(self, house, path, *, at=0, held=False, follow=True)", "step": "(self)", "is_done": "(self)",
        "anew": "(self)", "moment": "(self)", "road": "(self)",
    },
    ("house", "House"): {
        "__init__": "(self, row=())", "moment": "(self)", "falls": "(self)", "change": "(self, change)",
        "cut_back": "(self, moment)", "do_all": "(self, changes)", "row": "(self)", "tree": "(self, moment=None)",
        "make": "(self, path, what" + AT, "strike": "(self, path" + AT, "move": "(self, path, other" + AT,
        "exchange": "(self, path, other" + AT, "name": "(self, path, other" + AT,
        "mark": "(self, path, number, *, at=0, held=False, follow=True)", "read": "(self, path" + AT,
        "listed": "(self, path" + AT, "grasp": "(self, path" + AT, "text": "(self, handle, *, start=0, size=None)",
        "write": "(self, handle, start, signs)", "cut": "(self, handle, size)", "close": "(self, handle)",
        "opened": "(self)", "file_of": "(self, handle)", "now": "(self)", "twin": "(self)", "__len__": "(self)",
    },
    ("walks", "Walk"): {
        "__init__": "(self, house, *, at=0)", "step": "(self)", "is_done": "(self)", "waiting": "(self)",
        "listings": "(self)", "things": "(self)",
    },
    ("watches", "Watch"): {
        "__init__": "(self, house, thing=0, *, beneath=True, room=20)", "first": "(self)", "seen": "(self)",
        "notes": "(self)", "taken": "(self)", "look": "(self)", "is_full": "(self)", "noted_to": "(self)",
    },
    ("locks", "Locks"): {
        "__init__": "(self)", "ask": "(self, who, file, begin, end=None, *, shared=False)",
        "free": "(self, who, file, begin, end=None)", "leave": "(self, who)", "drop": "(self, who)",
        "is_waiting": "(self, who)", "held": "(self)", "waiting": "(self)", "twin": "(self)", "__len__": "(self)",
    },
    ("disk", "Disk"): {
        "__init__": "(self, house)", "keep": "(self, handle)", "keep_names": "(self)", "sure": "(self)",
        "unsure": "(self)", "is_choice": "(self, thing)", "choices": "(self, *, most=200)",
        "choice_by": "(self, number)", "fall": "(self, choice)", "renumbered": "(self)", "house": "(self)",
        "twin": "(self)", "__len__": "(self)",
    },
    ("recipes", "Recipe"): {
        "__init__": "(self, disk, path, text, *, beside='beside', at=0, held=False, without=())", "step": "(self)",
        "left": "(self)", "is_done": "(self)",
    },
    ("books", "Book"): {
        "__init__": "(self, disk, path" + AT, "put": "(self, line, *, sure=True)", "keep": "(self)",
        "lines": "(self)", "kept": "(self)", "__len__": "(self)",
    },
    ("unpacking", "Unpacking"): {
        "__init__": "(self, house, path, text" + AT, "step": "(self)", "left": "(self)", "moments": "(self)",
    },
    ("copies", "Copy"): {
        "__init__": "(self, house, path, other, to)", "step": "(self)", "is_done": "(self)", "pieces": "(self)",
        "left_out": "(self)", "came_to": "(self)", "as_at": "(self)",
    },
    ("hands", "Hand"): {
        "__init__": "(self, number)", "do": "(self, change)", "keep": "(self)", "fall": "(self)", "records": "(self)",
        "tree": "(self)", "identities": "(self)", "called": "(self)", "twin": "(self)", "__eq__": "(self, other)",
        "__len__": "(self)",
    },
    ("world", "World"): {
        "__init__": "(self, many=1)", "play": "(self, rows)", "record": "(self)", "paper": "(self)", "beats": "(self)",
        "busy": "(self)", "house": "(self, number)", "twin": "(self)", "__len__": "(self)",
    },
    ("desk", "Desk"): {"__init__": "(self)", "say": "(self, row)", "__len__": "(self)"},
}
VALUES = {("tree", "ROOT"): 0, ("watches", "ROOM"): 20, ("recipes", "STEPS"): ("make", "write", "keep", "move", "names")}


def found(module):
    """What is defined in a file, by name."""
    tree = ast.parse((PACKAGE / f"{module}.py").read_text(encoding="utf-8"))
    return {node.name: node for node in tree.body if isinstance(node, (ast.FunctionDef, ast.ClassDef))}


class TestInterface(unittest.TestCase):
    def test_functions(self):
        for module, functions in FUNCTIONS.items():
            for name, arguments in functions.items():
                with self.subTest(module=module, name=name):
                    self.assertIn(name, found(module))
                    whole = importlib.import_module(f"onehistory.{module}")
                    self.assertEqual(str(inspect.signature(getattr(whole, name))), arguments)

    def test_classes(self):
        for (module, kind), methods in CLASSES.items():
            own = [node.name for node in found(module)[kind].body if isinstance(node, ast.FunctionDef)]
            whole = getattr(importlib.import_module(f"onehistory.{module}"), kind)
            for name, arguments in methods.items():
                with self.subTest(module=module, kind=kind, name=name):
                    self.assertIn(name, own)
                    self.assertEqual(str(inspect.signature(getattr(whole, name))), arguments)

    def test_values(self):
        for (module, name), value in VALUES.items():
            told = getattr(importlib.import_module(f"onehistory.{module}"), name)
            self.assertEqual((type(told), told), (type(value), value))


if __name__ == "__main__":
    unittest.main()
