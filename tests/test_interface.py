"""The interface at the end of the document: its names, arguments and classes, each in its own file."""

import importlib
import inspect
import os
import unittest

from litdigits import errors
from litdigits.console import Console
from litdigits.live import Panel

INTERFACE = {
    "segments": [
        "is_pattern(value)", "pattern_of(digit)", "union_of(one, other)", "common_of(one, other)", "digit_of(pattern)",
        "torn_digit(one, other)", "digits_within(pattern)", "digits_about(pattern)",
    ],
    "displays": [
        "is_display(value)", "is_lit(display, place, tick)", "round_of(display)", "lit_ticks(display, place, begin, end)",
        "nth_lit(display, place, tick, index)", "lit_place(display, tick)",
    ],
    "pictures": [
        "is_history(display, value)", "count_at(display, history, tick)", "shown_at(display, history, tick)",
        "picture_of(display, camera, history, begin)", "reading_of(display, picture)",
        "film_of(display, camera, history, first, period, many)",
    ],
    "clear": [
        "seen_places(display, camera, begin)", "is_clear(display, camera)", "seen_begins(display, camera, place)",
        "clear_begins(display, camera)", "dark_paper(display, camera)", "shows_dark(display, camera, value)",
        "least_exposure(display, need)", "greatest_need(display, exposure)", "least_lit(display, camera)",
        "greatest_slot(display, camera)",
    ],
    "drift": [
        "first_dark(display, camera, first, period)", "first_clear(display, camera, first, period)",
        "count_dark(display, camera, first, period, many)", "clear_firsts(display, camera, period)",
    ],
    "torn": [
        "press_span(display, camera, begin)", "torn_pictures(display, camera, number, begin)",
        "torn_readings(display, camera, number, begin)", "place_thresholds(display, camera, place, begin)",
    ],
    "lies": [
        "kind_of(display, number)", "lies_at(display, camera, number, begin)", "can_lie(display, camera, number)",
        "lie_paper(display, camera, number)", "shows_lie(display, camera, number, value)", "lying_kinds(display, camera)",
        "is_truthful(display, camera)",
    ],
    "explained": [
        "explanations_of(display, camera, begin, picture)", "numbers_behind(display, camera, begin, picture)",
        "is_explained(display, camera, begin, picture)",
    ],
    "films": ["film_fits(display, camera, gap, film)", "first_misfit(display, camera, gap, film)"],
    "told": [
        "numbers_at(display, camera, gap, film, index)", "sure_numbers(display, camera, gap, film)",
        "history_paper(display, camera, gap, film)", "shows_history(display, camera, gap, film, value)",
    ],
    "paces": [
        "paced_count(display, counter, tick)", "number_row(display, counter, first, period, many)",
        "paced_history(display, counter, begin, end)", "seen_steps(display, pace, period)",
        "first_step(display, counter, first, period, step)", "count_steps(display, counter, first, period, step, many)",
        "row_again(display, pace, period)",
    ],
    "faults": [
        "seen_with(faults, digit)", "digits_alike(faults)", "can_tell(faults)", "read_with(faults, pattern)",
        "numbers_seen(row, picture)", "segment_states(tests)", "first_contradiction(tests)", "count_faults(tests)",
        "next_digits(tests)",
    ],
    "texts": [
        "format_display(display)", "format_history(history)", "format_picture(picture)", "parse_display(text)",
        "parse_history(display, text)", "parse_picture(display, text)",
    ],
}

CLASSES = {
    Panel: ["__init__(self, display, number)", "press(self, tick)", "wait(self, tick)", "undo(self)", "__len__(self)",
            "picture(self, camera, begin)", "fork(self)", "__eq__(self, other)"],
    Console: ["__init__(self)", "execute(self, command)"],
}

PROPERTIES = ["tick", "counted", "shown", "lit", "pattern", "history", "log"]

FIELDS = {
    "InvalidDisplay": "index", "InvalidCamera": "index", "InvalidHistory": "index", "InvalidPicture": "index",
    "InvalidFilm": "index", "InvalidFaults": "index", "InvalidTests": "index", "InvalidCounter": "index",
    "TooLarge": "limit", "InvalidSyntax": "word",
}


class Interface(unittest.TestCase):
    def test_functions(self):
        for name, rows in INTERFACE.items():
            module = importlib.import_module(f"litdigits.{name}")
            for row in rows:
                function = getattr(module, row.partition("(")[0])
                self.assertTrue(inspect.isfunction(function), row)
                self.assertEqual(function.__module__, module.__name__, row)
                self.assertEqual(row, function.__name__ + str(inspect.signature(function)))

    def test_classes(self):
        for kind, rows in CLASSES.items():
            self.assertEqual(kind.__module__, {Panel: "litdigits.live", Console: "litdigits.console"}[kind])
            for row in rows:
                method = vars(kind)[row.partition("(")[0]]
                self.assertEqual(row, method.__name__ + str(inspect.signature(method)))

    def test_properties(self):
        for name in PROPERTIES:
            self.assertIsInstance(vars(Panel)[name], property)
            # They are there from the begin on.
            self.assertTrue(hasattr(Panel((3, 10, 8, "now"), 5), name))

    def test_fields_of_errors(self):
        for name, field in FIELDS.items():
            for value in (None, 0, 5, 1200):
                error = getattr(errors, name)(value)
                self.assertEqual(vars(error), {field: value})
                self.assertEqual(vars(getattr(errors, name)(**{field: value})), {field: value})

    def test_each_error_is_a_direct_subclass(self):
        self.assertEqual(errors.LitError.__bases__, (ValueError, ))
        named = [value for value in vars(errors).values() if inspect.isclass(value) and value is not errors.LitError]
        self.assertEqual(len(named), 18)
        for kind in named:
            self.assertEqual(kind.__bases__, (errors.LitError, ))
            self.assertEqual(kind.__module__, "litdigits.errors")

    def test_files(self):
        folder = os.path.dirname(errors.__file__)
        files = {name[:-3] for name in os.listdir(folder) if name.endswith(".py")}
        self.assertEqual(files, {*INTERFACE, "errors", "live", "console", "__init__", "integers"})


if __name__ == "__main__":
    unittest.main()
