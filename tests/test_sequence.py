"""Point 3: the sequence in which errors are checked, and that no call changes an argument."""

import inspect
import itertools
import unittest

from litdigits import displays, pictures, segments
from litdigits.errors import (
    InvalidCamera, InvalidDigit, InvalidDisplay, InvalidHistory, InvalidNumber, InvalidPattern, InvalidPicture,
    InvalidPlace, InvalidTick,
)
from tests.helper import NO_INTEGERS, called

# For each kind of argument a good value, and wrong ones with the error and the field that the document names.
DISPLAY = (3, 10, 8, "now"), [
    (None, InvalidDisplay, None), ([3, 10, 8, "now"], InvalidDisplay, None), ((3, 10, 8), InvalidDisplay, None),
    ((9, 0, 0, ""), InvalidDisplay, 0), ((3, 0, 11, ""), InvalidDisplay, 1), ((3, 10, 11, ""), InvalidDisplay, 2),
    ((3, 10, 8, "later"), InvalidDisplay, 3),
]
CAMERA = (30, 4), [
    (None, InvalidCamera, None), ([30, 4], InvalidCamera, None), ((0, 0), InvalidCamera, 0), ((30, 0), InvalidCamera, 1),
    ((True, 4), InvalidCamera, 0), ((30, "4"), InvalidCamera, 1),
]
HISTORY = (199, [9, 24]), [
    (None, InvalidHistory, None), ([199, [9]], InvalidHistory, None), ((1000, [9, 9]), InvalidHistory, 0),
    ((199, [9, 9]), InvalidHistory, 1), ((199, (9, 24)), InvalidHistory, 1), ((-1, [9]), InvalidHistory, 0),
]
PICTURE = ["bc", "", "abdeg"], [
    (None, InvalidPicture, None), (("bc", "", "abdeg"), InvalidPicture, None), (["bc", ""], InvalidPicture, None),
    (["cb", None, "g"], InvalidPicture, 0), (["bc", "", "aa"], InvalidPicture, 2),
]
PLACE = 1, [(value, InvalidPlace, "") for value in (-1, 3, 8, 10 ** 30, *NO_INTEGERS)]
TICK = 12, [(value, InvalidTick, "") for value in NO_INTEGERS]
INDEX = 5, [(value, InvalidNumber, "") for value in (-1, -10 ** 30, *NO_INTEGERS)]
PERIOD = 30, [(value, InvalidNumber, "") for value in (0, -1, *NO_INTEGERS)]
PICTURES = 3, [(value, InvalidNumber, "") for value in (-1, 61, *NO_INTEGERS)]
PATTERN = "bcg", [(value, InvalidPattern, "") for value in (None, "cb", "aa", "h", 8, ["b"], True)]
DIGIT = 4, [(value, InvalidDigit, "") for value in (-1, 10, *NO_INTEGERS)]

KINDS = {
    segments.pattern_of: {"digit": DIGIT},
    segments.digit_of: {"pattern": PATTERN},
    segments.union_of: {"one": PATTERN, "other": PATTERN},
    segments.common_of: {"one": PATTERN, "other": PATTERN},
    segments.torn_digit: {"one": DIGIT, "other": DIGIT},
    segments.digits_within: {"pattern": PATTERN},
    segments.digits_about: {"pattern": PATTERN},
    displays.round_of: {"display": DISPLAY},
    displays.is_lit: {"display": DISPLAY, "place": PLACE, "tick": TICK},
    displays.lit_place: {"display": DISPLAY, "tick": TICK},
    displays.lit_ticks: {"display": DISPLAY, "place": PLACE, "begin": TICK, "end": TICK},
    displays.nth_lit: {"display": DISPLAY, "place": PLACE, "tick": TICK, "index": INDEX},
    pictures.count_at: {"display": DISPLAY, "history": HISTORY, "tick": TICK},
    pictures.shown_at: {"display": DISPLAY, "history": HISTORY, "tick": TICK},
    pictures.picture_of: {"display": DISPLAY, "camera": CAMERA, "history": HISTORY, "begin": TICK},
    pictures.reading_of: {"display": DISPLAY, "picture": PICTURE},
    pictures.film_of: {
        "display": DISPLAY, "camera": CAMERA, "history": HISTORY, "first": TICK, "period": PERIOD, "many": PICTURES,
    },
}


class Sequence(unittest.TestCase):
    def refused(self, function, values, error_class, field):
        error = called(function, *values)
        self.assertIs(type(error), error_class, (function, values))
        self.assertEqual(str(error), str(called(function, **dict(zip(KINDS[function], values)))))
        # Errors without a field have no index at all.
        self.assertEqual(getattr(error, "index", ""), field, (function, values))

    def test_names_of_the_arguments(self):
        for function, kinds in KINDS.items():
            self.assertEqual(list(inspect.signature(function).parameters), list(kinds), function)
        self.assertEqual(list(inspect.signature(segments.is_pattern).parameters), ["value"])
        self.assertEqual(list(inspect.signature(displays.is_display).parameters), ["value"])
        self.assertEqual(list(inspect.signature(pictures.is_history).parameters), ["display", "value"])

    def test_good_arguments_stay_as_they_are(self):
        for function, kinds in KINDS.items():
            answer = called(function, *[good for good, _ in kinds.values()])
            self.assertNotIsInstance(answer, Exception, function)
            self.assertEqual(answer, called(function, **{name: kinds[name][0] for name in reversed(kinds)}))

    def test_each_argument_wrong_by_itself(self):
        for function, kinds in KINDS.items():
            good = [good for good, _ in kinds.values()]
            for index, (_, wrong) in enumerate(kinds.values()):
                for value, error_class, field in wrong:
                    self.refused(function, [*good[:index], value, *good[index + 1:]], error_class, field)

    def test_several_wrong_arguments(self):
        for function, kinds in KINDS.items():
            names = list(kinds)
            for many in range(2, len(names) + 1):
                for some in itertools.combinations(names, many):
                    for turn in range(3):
                        self.several(function, kinds, some, turn)

    def several(self, function, kinds, some, turn):
        """All of some arguments are wrong: the error of the first one is raised, for each of its wrong values."""
        for value, error_class, field in kinds[some[0]][1]:
            values = []
            for name, (good, wrong) in kinds.items():
                values.append(wrong[turn % len(wrong)][0] if name in some else good)
            values[list(kinds).index(some[0])] = value
            self.refused(function, values, error_class, field)

    def test_is_history_checks_the_display_first(self):
        for display, error_class, field in DISPLAY[1]:
            for value in (None, (199, [9]), (1000, [])):
                error = called(pictures.is_history, display, value)
                self.assertIs(type(error), error_class)
                self.assertEqual(error.index, field)
        for value, _, _ in HISTORY[1]:
            self.assertIs(called(pictures.is_history, DISPLAY[0], value), False)

    def test_huge_integers_are_refused_as_others_are(self):
        huge = 10 ** 5000
        self.refused(displays.nth_lit, [DISPLAY[0], 1, 0, -huge], InvalidNumber, "")
        self.refused(displays.is_lit, [DISPLAY[0], huge, 0], InvalidPlace, "")
        self.refused(displays.round_of, [(huge, 1, 1, "now")], InvalidDisplay, 0)
        self.refused(segments.pattern_of, [huge], InvalidDigit, "")
        self.refused(pictures.film_of, [DISPLAY[0], (30, 4), (3, []), 0, 30, huge], InvalidNumber, "")
        self.refused(pictures.count_at, [DISPLAY[0], (huge, []), 0], InvalidHistory, 0)

    def test_a_place_of_another_display(self):
        for places in range(1, 9):
            for place in range(-2, 10):
                answer = called(displays.is_lit, (places, 1, 1, "now"), place, 0)
                if 0 <= place < places:
                    self.assertIs(answer, place == 0)
                else:
                    self.assertIs(type(answer), InvalidPlace)


if __name__ == "__main__":
    unittest.main()
