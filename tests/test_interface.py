"""The interface of the document: all is there under its name, in its module, with its arguments."""

import importlib
import inspect
import unittest

INTERFACE = {
    "beds": {"is_house": 1, "is_bed": 1, "is_standing": 2},
    "moves": {
        "turned": 1, "mirrored": 1, "reordered": 2, "renamed": 2, "turned_standing": 2, "mirrored_standing": 2,
        "reordered_standing": 2},
    "holding": {"sides_held": 4, "held": 4, "growings": 2},
    "rows": {"grown": 2, "is_row": 2, "first_end": 1},
    "keeper": {"Grow": 1},
    "verdicts": {"verdict": 1},
    "verdictlooks": {"shows_verdict": 2},
    "waiting": {"waits": 1, "first_sides": 1, "turns": 1},
    "light": {"is_light": 2},
    "books": {"book": 1, "ends": 1, "always": 1, "ever": 1},
    "booklooks": {"shows_book": 2},
    "spoilt": {"sound": 2, "mended": 2, "torn": 2},
    "walkers": {"is_walker": 1, "walked": 2, "counter": 1, "copier": 1},
    "walkbeds": {"faces": 3, "walked_bed": 3, "counted_bed": 4},
    "shapes": {"is_shape": 1, "makes": 2, "shape_bed": 1, "box_bed": 2},
    "ways": {"freest": 3},
    "fewest": {"least_kinds": 2},
    "fewlooks": {"shows_least_kinds": 3},
    "blocks": {"is_framed": 1, "blocked": 2},
    "wrongs": {"wrong_ones": 2},
    "prices": {"least_wrong": 3},
    "pricelooks": {"shows_least_wrong": 4},
    "texts": {"show_bed": 1, "read_bed": 1, "show_row": 1, "read_row": 1, "picture": 2},
    "desk": {"Desk": 1},
}
METHODS = {
    ("keeper", "Grow"): {"put": 3, "on": 0, "back": 0, "standing": 0, "row": 0, "growings": 0},
    ("desk", "Desk"): {"say": 1},
}


class InterfaceTest(unittest.TestCase):
    def test_names_and_arguments(self):
        for module, names in INTERFACE.items():
            found = importlib.import_module("stickytiles." + module)
            for name, count in names.items():
                self.assertEqual(len(inspect.signature(getattr(found, name)).parameters), count, name)

    def test_methods(self):
        for (module, name), methods in METHODS.items():
            found = getattr(importlib.import_module("stickytiles." + module), name)
            for method, count in methods.items():
                # One more for the object itself.
                self.assertEqual(len(inspect.signature(getattr(found, method)).parameters), count + 1, method)


if __name__ == "__main__":
    unittest.main()
