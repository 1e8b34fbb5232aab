"""The interface at the end of the document: names, arguments and the files in which they are defined."""

import importlib
import inspect
import unittest

EMPTY = inspect.Parameter.empty
NEEDED = object()

FUNCTIONS = {
    "cookcalls.meals": {
        "together": {"names": NEEDED, "most": NEEDED},
        "keeping": {"name": NEEDED, "others": NEEDED, "most": NEEDED},
        "ready_by": {"names": NEEDED, "minute": NEEDED},
        "behind": {"name": NEEDED, "other": NEEDED, "least": NEEDED},
    },
    "cookcalls.hangings": {
        "hangings": {"names": NEEDED, "looks": NEEDED},
    },
    "cookcalls.judging": {
        "most_behind": {"meal": NEEDED, "book": NEEDED, "one": NEEDED, "other": NEEDED},
        "worst_times": {"meal": NEEDED, "book": NEEDED, "one": NEEDED, "other": NEEDED},
        "is_right": {"meal": NEEDED, "book": NEEDED},
        "slacks": {"meal": NEEDED, "book": NEEDED},
        "fault": {"meal": NEEDED, "book": NEEDED},
        "orders": {"meal": NEEDED, "book": NEEDED},
        "happens": {"meal": NEEDED, "book": NEEDED, "wishes": NEEDED},
    },
    "cookcalls.waiting": {
        "earliest": {"meal": NEEDED, "hanging": NEEDED, "orders": ()},
        "latest": {"meal": NEEDED, "hanging": NEEDED, "orders": ()},
        "ring": {"meal": NEEDED, "hanging": NEEDED, "orders": ()},
        "is_ring": {"meal": NEEDED, "hanging": NEEDED, "orders": NEEDED, "thing": NEEDED},
        "row_of": {"meal": NEEDED, "hanging": NEEDED, "orders": NEEDED, "row": NEEDED},
    },
    "cookcalls.seeking": {
        "book_for": {"meal": NEEDED, "looks": None},
        "reason": {"meal": NEEDED, "looks": None},
        "is_reason": {"meal": NEEDED, "looks": NEEDED, "thing": NEEDED},
    },
    "cookcalls.calls": {
        "enough": {"meal": NEEDED, "looks": NEEDED},
        "least_looks": {"meal": NEEDED},
        "in_place": {"meal": NEEDED, "looks": NEEDED, "look": NEEDED, "other": NEEDED},
    },
    "cookcalls.bounds": {
        "least_most": {"meal": NEEDED, "index": NEEDED, "looks": None},
        "soonest": {"meal": NEEDED, "names": NEEDED, "looks": None},
        "closest": {"meal": NEEDED, "names": NEEDED, "looks": None},
    },
    "cookcalls.comparing": {
        "never_later": {"meal": NEEDED, "one": NEEDED, "other": NEEDED},
        "same": {"meal": NEEDED, "one": NEEDED, "other": NEEDED},
        "parting": {"meal": NEEDED, "one": NEEDED, "other": NEEDED},
        "gains": {"meal": NEEDED, "one": NEEDED, "other": NEEDED},
    },
    "cookcalls.backing": {
        "told_back": {"meal": NEEDED, "book": NEEDED, "seen": NEEDED},
        "blamed": {"meal": NEEDED, "book": NEEDED, "seen": NEEDED},
    },
    "cookcalls.quarrels": {
        "quarrels": {"meal": NEEDED, "hanging": NEEDED},
        "peaces": {"meal": NEEDED, "hanging": NEEDED},
    },
    "cookcalls.texts": {
        "write": {"thing": NEEDED},
        "read": {"text": NEEDED},
    },
}

CLASSES = {
    "cookcalls.meals": {
        "Meal": {
            "__init__": {"dishes": NEEDED, "wishes": (), "stations": ()},
            "dishes": {}, "wishes": {}, "stations": {},
            "more": {"wishes": NEEDED}, "less": {"index": NEEDED},
            "taking": {"name": NEEDED, "least": NEEDED, "most": NEEDED},
            "__len__": None, "__contains__": None, "__iter__": None, "__add__": None, "__eq__": None,
        },
    },
    "cookcalls.hangings": {
        "Hanging": {
            "__init__": {"rows": NEEDED},
            "rows": {}, "dishes": {}, "way": {"name": NEEDED}, "looks": {},
            "__iter__": None, "__eq__": None,
        },
    },
    "cookcalls.books": {
        "Book": {
            "__init__": {"rows": NEEDED},
            "rows": {}, "hanging": {}, "wait": {"name": NEEDED}, "added": {"name": NEEDED},
            "of": {"hanging": NEEDED, "sums": NEEDED}, "__call__": {"times": NEEDED}, "__getitem__": None,
            "__iter__": None, "__add__": None, "__and__": None, "__or__": None, "__eq__": None,
        },
    },
    "cookcalls.evenings": {
        "Evening": {
            "__init__": {"meal": NEEDED, "book": NEEDED},
            "minute": {}, "state": {"name": NEEDED}, "book": {}, "meal": {}, "go": {"minutes": NEEDED},
            "call": {"name": NEEDED},
            "put": {"name": NEEDED, "least": NEEDED, "most": NEEDED, "other": NEEDED, "wait": NEEDED},
            "change": {"name": NEEDED, "other": NEEDED, "wait": NEEDED}, "wish": {"wish": NEEDED}, "undo": {},
            "several": {"deeds": NEEDED}, "rest": {}, "verdicts": {}, "mended": {"looks": None},
        },
    },
}


def told(function, skipped=0):
    """Return the parameters of a function with their default values."""
    found = list(inspect.signature(function).parameters.values())[skipped:]
    return {one.name: NEEDED if one.default is EMPTY else one.default for one in found}


class Interface(unittest.TestCase):
    def test_functions(self):
        for module, functions in FUNCTIONS.items():
            for word, parameters in functions.items():
                function = getattr(importlib.import_module(module), word)
                self.assertEqual(function.__module__, module, word)
                self.assertEqual(list(told(function).items()), list(parameters.items()), word)

    def test_classes_define_their_methods_themselves(self):
        for module, classes in CLASSES.items():
            for word, methods in classes.items():
                found = getattr(importlib.import_module(module), word)
                self.assertEqual(found.__module__, module, word)
                for method, parameters in methods.items():
                    self.assertIn(method, vars(found), word)
                    if parameters is not None:
                        skipped = 0 if isinstance(vars(found)[method], staticmethod) else 1
                        self.assertEqual(list(told(vars(found)[method], skipped).items()), list(parameters.items()))


if __name__ == "__main__":
    unittest.main()
