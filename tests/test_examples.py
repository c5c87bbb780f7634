"""Every example of the interface, word for word, and the interface's names and arguments."""

import importlib
import inspect
import os
import sys
import unittest

HERE = os.path.dirname(os.path.abspath(__file__))

# In the order of the document, whose sessions go on from module to module.
MODULES = ("terms", "texts", "booktexts", "book", "plain", "rows", "memory", "machine", "collector", "sound", "runs", "rest", "shortest",
           "settled", "images", "console")

SIGNATURES = {
    "terms": {
        "is_term": "(book, value)",
        "is_pattern": "(book, value)",
        "is_source": "(book, value)",
        "names_of": "(book, word)",
        "length_of": "(book, pattern)",
        "depth_of": "(book, pattern)",
        "free_names": "(book, pattern)",
        "boxes_in": "(book, pattern)",
        "led": "(book, pattern, ways, by)",
        "put_in": "(book, term, parts)",
        "part_at": "(book, pattern, place)",
        "replaced": "(book, pattern, place, part)",
    },
    "texts": {
        "read_source": "(book, text)",
        "print_source": "(book, source, *, names=None)",
        "are_alike": "(book, text, other)",
    },
    "booktexts": {
        "read_book": "(text)",
        "print_book": "(book)",
    },
    "book": {
        "is_book": "(value)",
        "opened": "(book, pattern)",
        "open_places": "(book, pattern)",
        "opened_at": "(book, pattern, place)",
        "openings_left": "(book, pattern)",
        "opened_length": "(book, pattern)",
        "opened_depth": "(book, pattern)",
        "opened_source": "(book, source)",
    },
    "plain": {
        "is_value": "(value)",
        "is_program": "(value)",
        "outcome_of": "(program)",
        "place_of": "(program)",
        "met": "(program)",
        "tidied": "(program)",
        "next_of": "(program)",
        "go_on": "(program, steps)",
    },
    "rows": {
        "code_of": "(program)",
        "row_places": "(code)",
        "is_code": "(value)",
        "term_of": "(code)",
    },
    "memory": {
        "read_word": "(word)",
        "number_word": "(number)",
        "address_word": "(place)",
        "mark_word": "(mark)",
        "header_word": "(kind, fields)",
        "laid_out": "(sizes, code)",
        "read_register": "(memory, name)",
        "sizes_of": "(memory)",
        "code_at": "(memory)",
        "area": "(memory, place)",
        "in_use": "(memory, place)",
        "led_to": "(memory, word)",
        "object_at": "(memory, place)",
        "objects": "(memory, name)",
        "frames": "(memory)",
    },
    "machine": {
        "begun": "(program, sizes)",
        "stepped": "(memory)",
        "makes_step": "(memory)",
        "outcome": "(memory)",
    },
    "collector": {
        "room": "(memory)",
        "moved": "(memory, place)",
        "fetched": "(memory, word)",
        "begun_small": "(memory)",
        "small_step": "(memory)",
        "begun_great": "(memory)",
        "great_step": "(memory)",
        "reached": "(memory)",
        "collected": "(memory)",
    },
    "sound": {
        "first_wrong": "(value)",
        "is_sound": "(value)",
    },
    "runs": {
        "run": "(memory, steps)",
    },
    "rest": {
        "rest": "(memory)",
        "rest_text": "(book, memory)",
        "are_at_one": "(memory, other)",
    },
    "shortest": {
        "shortest": "(book, term)",
        "shortest_source": "(book, program)",
        "texts": "(book, term)",
    },
    "settled": {
        "stands": "(book, pattern)",
        "put_back": "(book, pattern, place, form)",
        "folded": "(book, pattern)",
        "overlaps": "(book)",
        "least_pattern": "(book, first, place, second)",
        "is_settled": "(book)",
        "parting": "(book)",
    },
    "images": {
        "blank": "(width)",
        "held": "(device, slot)",
        "current": "(device)",
        "is_mended": "(device)",
        "mending": "(device)",
        "saving": "(device, memory)",
        "written": "(device, writes, many, torn=None)",
        "mended": "(device)",
        "saved": "(device, memory)",
        "taken_up": "(device)",
    },
}


def examples(text):
    """The examples of a session as pairs of what is typed and of what is told."""
    found = []
    for line in text.rstrip("\n").split("\n"):
        if line.startswith(">>> "):
            found.append([line[4:], []])
        elif line.startswith("... "):
            found[-1][0] += "\n" + line[4:]
        elif line:
            found[-1][1].append(line)
    return [(typed, "\n".join(told)) for typed, told in found]


def told(typed, names):
    """What a typed line tells, as the document writes it."""
    shown, hook = [], sys.displayhook
    sys.displayhook = lambda value: shown.append(repr(value))
    try:
        exec(compile(typed + "\n", "<example>", "single"), names)
    except ValueError as error:
        return f"raises {type(error).__name__}({', '.join([repr(held) for held in vars(error).values()])})"
    finally:
        sys.displayhook = hook
    return "\n".join(shown)


METHODS = {
    "__init__": "(self, book, *, sizes=(60, 8, 30, 200, 3), width=2000)",
    "load": "(self, text)",
    "step": "(self, steps=1)",
    "rest": "(self)",
    "collect": "(self)",
    "resize": "(self, sizes)",
    "save": "(self)",
    "cut": "(self, many, torn=None)",
    "take": "(self)",
    "undo": "(self)",
    "trial": "(self)",
    "answer": "(self, line)",
    "tried": "(self, lines)",
}
PROPERTIES = ("book", "sizes", "device", "memory", "said", "outcome")


class Examples(unittest.TestCase):
    def test_examples_word_for_word(self):
        names, many = {}, 0
        for module in MODULES:
            with open(os.path.join(HERE, "examples", module + ".txt"), encoding="ascii") as held:
                session = examples(held.read())
            for typed, wanted in session:
                with self.subTest(typed=typed):
                    self.assertEqual(told(typed, names), wanted)
                many += 1
        self.assertEqual(many, 112)


class Interface(unittest.TestCase):
    def test_functions_are_defined_where_they_are_listed(self):
        for module, functions in SIGNATURES.items():
            found = importlib.import_module("formstead." + module)
            for name, signature in functions.items():
                with self.subTest(module=module, name=name):
                    self.assertEqual(str(inspect.signature(getattr(found, name))), signature)
                    self.assertEqual(getattr(found, name).__module__, "formstead." + module)

    def test_methods_and_properties_are_defined_in_the_class_itself(self):
        made = importlib.import_module("formstead.console").Console
        self.assertEqual(made.__module__, "formstead.console")
        for name, signature in METHODS.items():
            self.assertEqual(str(inspect.signature(vars(made)[name])), signature)
        for name in PROPERTIES:
            self.assertIsInstance(vars(made)[name], property)
            self.assertRaises(AttributeError, setattr, made(()), name, None)


if __name__ == "__main__":
    unittest.main()
