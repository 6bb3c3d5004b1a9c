"""Point 3: the sequence in which errors are checked, and that no call changes an argument."""

import inspect
import itertools
import unittest

from litdigits import clear, displays, drift, explained, faults, films, lies, live, paces, pictures, segments, texts
from litdigits import told, torn
from litdigits.errors import (
    InvalidCamera, InvalidCounter, InvalidDigit, InvalidDisplay, InvalidFaults, InvalidFilm, InvalidHistory,
    InvalidNumber, InvalidPattern, InvalidPicture, InvalidPlace, InvalidSyntax, InvalidTests, InvalidTick,
)
from tests.helper import NO_INTEGERS, called

# For each kind of argument a good value, and wrong ones with the error and the field that the document names.
DISPLAY = (3, 10, 8, "now"), [
    (None, InvalidDisplay, None), ([3, 10, 8, "now"], InvalidDisplay, None), ((3, 10, 8), InvalidDisplay, None),
    ((9, 0, 0, ""), InvalidDisplay, 0), ((3, 0, 11, ""), InvalidDisplay, 1), ((3, 10, 11, ""), InvalidDisplay, 2),
    ((3, 10, 8, "later"), InvalidDisplay, 3),
]
CAMERA = (30, 4), [
    (None, InvalidCamera, None), ([30, 4], InvalidCamera, None), ((0, 0), InvalidCamera, 0), ((30, 0), InvalidCamera, 1),
    ((True, 4), InvalidCamera, 0), ((30, "4"), InvalidCamera, 1),
]
HISTORY = (199, [9, 24]), [
    (None, InvalidHistory, None), ([199, [9]], InvalidHistory, None), ((1000, [9, 9]), InvalidHistory, 0),
    ((199, [9, 9]), InvalidHistory, 1), ((199, (9, 24)), InvalidHistory, 1), ((-1, [9]), InvalidHistory, 0),
]
PICTURE = ["bc", "", "abdeg"], [
    (None, InvalidPicture, None), (("bc", "", "abdeg"), InvalidPicture, None), (["bc", ""], InvalidPicture, None),
    (["cb", None, "g"], InvalidPicture, 0), (["bc", "", "aa"], InvalidPicture, 2),
]
PLACE = 1, [(value, InvalidPlace, "") for value in (-1, 3, 8, 10 ** 30, *NO_INTEGERS)]
TICK = 12, [(value, InvalidTick, "") for value in NO_INTEGERS]
NUMBER = 199, [(value, InvalidNumber, "") for value in (-1, 1000, 10 ** 30, *NO_INTEGERS)]
INDEX = 5, [(value, InvalidNumber, "") for value in (-1, -10 ** 30, *NO_INTEGERS)]
PERIOD = 30, [(value, InvalidNumber, "") for value in (0, -1, *NO_INTEGERS)]
PICTURES = 3, [(value, InvalidNumber, "") for value in (-1, 61, *NO_INTEGERS)]
PATTERN = "bcg", [(value, InvalidPattern, "") for value in (None, "cb", "aa", "h", 8, ["b"], True)]
DIGIT = 4, [(value, InvalidDigit, "") for value in (-1, 10, *NO_INTEGERS)]
GAP = 40, [(value, InvalidNumber, "") for value in (29, 0, -40, *NO_INTEGERS)]
FILM = [(0, ["bc", "bc", "bc"]), (30, ["", "bc", "bc"])], [
    (None, InvalidFilm, None), (((0, ["", "", ""]), ), InvalidFilm, None), ([None] * 13, InvalidFilm, None),
    ([None], InvalidFilm, 0), ([(0, ["", "", ""]), (29, ["", "", ""])], InvalidFilm, 1),
    ([(0, ["", "", ""]), (30, ["", ""])], InvalidFilm, 1), ([(True, ["", "", ""])], InvalidFilm, 0),
]
# This one fits: seen from these begins, both pictures are those of a number.
FITTING = [(0, ["bc", "bc", "bc"]), (30, ["bc", "bc", "bc"])], FILM[1]
SHOWN = 1, [(value, InvalidNumber, "") for value in (-1, 2, 12, *NO_INTEGERS)]
COUNTER = (5, 0, 7), [
    (None, InvalidCounter, None), ([5, 0, 7], InvalidCounter, None), ((5, 0), InvalidCounter, None),
    ((1000, "", 0), InvalidCounter, 0), ((5, "", 0), InvalidCounter, 1), ((5, 0, 0), InvalidCounter, 2),
]
END = 40, [(value, InvalidTick, "") for value in (11, -10 ** 29, *NO_INTEGERS)]
FAULTS = ("b", "e"), [
    (None, InvalidFaults, None), (["b", "e"], InvalidFaults, None), (("b", ), InvalidFaults, None),
    (("ba", "ba"), InvalidFaults, 0), (("b", "be"), InvalidFaults, 1), (("b", None), InvalidFaults, 1),
]
ROW = [("b", "e"), ("", "")], [
    (None, InvalidFaults, None), ([], InvalidFaults, None), ([None] * 4, InvalidFaults, None),
    ((("b", "e"), ), InvalidFaults, None), ([None, None], InvalidFaults, 0), ([("b", "e"), ("b", "b")], InvalidFaults, 1),
]
TWO_PATTERNS = ["acdefg", "bc"], [
    (None, InvalidPicture, None), (["bc"], InvalidPicture, None), (["bc"] * 3, InvalidPicture, None),
    (("bc", "bc"), InvalidPicture, None), (["cb", None], InvalidPicture, 0), (["bc", None], InvalidPicture, 1),
]
TESTS = [(8, "acdefg"), (1, "c")], [
    (None, InvalidTests, None), (((8, "a"), ), InvalidTests, None), ([None] * 61, InvalidTests, None),
    ([None], InvalidTests, 0), ([(8, "a"), (10, "a")], InvalidTests, 1), ([(8, "a"), (1, "ca"), None], InvalidTests, 1),
]


def texts_of(good, wrong):
    """A good text, and wrong ones with their words."""
    return good, [(value, InvalidSyntax, word) for value, word in wrong]


DISPLAY_TEXT = texts_of("3x10/8 now", [(None, None), ("", 0), ("3x10/8", 1), ("3x10/8 now now", 2), (5, None)])
HISTORY_TEXT = texts_of("17: 5 9", [(None, None), ("", 0), ("17: 5 5", 2), ("1000: 5 5", 0), (b"17:", None)])
PICTURE_TEXT = texts_of("bc - a", [(None, None), ("", 0), ("bc - a a", 3), ("bc -", 2), (["bc"], None)])

KINDS = {
    segments.pattern_of: {"digit": DIGIT},
    segments.digit_of: {"pattern": PATTERN},
    segments.union_of: {"one": PATTERN, "other": PATTERN},
    segments.common_of: {"one": PATTERN, "other": PATTERN},
    segments.torn_digit: {"one": DIGIT, "other": DIGIT},
    segments.digits_within: {"pattern": PATTERN},
    segments.digits_about: {"pattern": PATTERN},
    displays.round_of: {"display": DISPLAY},
    displays.is_lit: {"display": DISPLAY, "place": PLACE, "tick": TICK},
    displays.lit_place: {"display": DISPLAY, "tick": TICK},
    displays.lit_ticks: {"display": DISPLAY, "place": PLACE, "begin": TICK, "end": TICK},
    displays.nth_lit: {"display": DISPLAY, "place": PLACE, "tick": TICK, "index": INDEX},
    pictures.count_at: {"display": DISPLAY, "history": HISTORY, "tick": TICK},
    pictures.shown_at: {"display": DISPLAY, "history": HISTORY, "tick": TICK},
    pictures.picture_of: {"display": DISPLAY, "camera": CAMERA, "history": HISTORY, "begin": TICK},
    pictures.reading_of: {"display": DISPLAY, "picture": PICTURE},
    pictures.film_of: {
        "display": DISPLAY, "camera": CAMERA, "history": HISTORY, "first": TICK, "period": PERIOD, "many": PICTURES,
    },
    clear.seen_places: {"display": DISPLAY, "camera": CAMERA, "begin": TICK},
    clear.is_clear: {"display": DISPLAY, "camera": CAMERA},
    clear.seen_begins: {"display": DISPLAY, "camera": CAMERA, "place": PLACE},
    clear.clear_begins: {"display": DISPLAY, "camera": CAMERA},
    clear.dark_paper: {"display": DISPLAY, "camera": CAMERA},
    clear.least_exposure: {"display": DISPLAY, "need": PERIOD},
    clear.greatest_need: {"display": DISPLAY, "exposure": PERIOD},
    clear.least_lit: {"display": DISPLAY, "camera": CAMERA},
    clear.greatest_slot: {"display": DISPLAY, "camera": CAMERA},
    drift.first_dark: {"display": DISPLAY, "camera": CAMERA, "first": TICK, "period": PERIOD},
    drift.first_clear: {"display": DISPLAY, "camera": CAMERA, "first": TICK, "period": PERIOD},
    drift.count_dark: {"display": DISPLAY, "camera": CAMERA, "first": TICK, "period": PERIOD, "many": INDEX},
    drift.clear_firsts: {"display": DISPLAY, "camera": CAMERA, "period": PERIOD},
    torn.press_span: {"display": DISPLAY, "camera": CAMERA, "begin": TICK},
    torn.torn_pictures: {"display": DISPLAY, "camera": CAMERA, "number": NUMBER, "begin": TICK},
    torn.torn_readings: {"display": DISPLAY, "camera": CAMERA, "number": NUMBER, "begin": TICK},
    torn.place_thresholds: {"display": DISPLAY, "camera": CAMERA, "place": PLACE, "begin": TICK},
    lies.kind_of: {"display": DISPLAY, "number": NUMBER},
    lies.lies_at: {"display": DISPLAY, "camera": CAMERA, "number": NUMBER, "begin": TICK},
    lies.can_lie: {"display": DISPLAY, "camera": CAMERA, "number": NUMBER},
    lies.lie_paper: {"display": DISPLAY, "camera": CAMERA, "number": NUMBER},
    lies.lying_kinds: {"display": DISPLAY, "camera": CAMERA},
    lies.is_truthful: {"display": DISPLAY, "camera": CAMERA},
    explained.explanations_of: {"display": DISPLAY, "camera": CAMERA, "begin": TICK, "picture": PICTURE},
    explained.numbers_behind: {"display": DISPLAY, "camera": CAMERA, "begin": TICK, "picture": PICTURE},
    explained.is_explained: {"display": DISPLAY, "camera": CAMERA, "begin": TICK, "picture": PICTURE},
    films.film_fits: {"display": DISPLAY, "camera": CAMERA, "gap": GAP, "film": FILM},
    films.first_misfit: {"display": DISPLAY, "camera": CAMERA, "gap": GAP, "film": FILM},
    told.numbers_at: {"display": DISPLAY, "camera": CAMERA, "gap": GAP, "film": FITTING, "index": SHOWN},
    told.sure_numbers: {"display": DISPLAY, "camera": CAMERA, "gap": GAP, "film": FITTING},
    told.history_paper: {"display": DISPLAY, "camera": CAMERA, "gap": GAP, "film": FILM},
    paces.paced_count: {"display": DISPLAY, "counter": COUNTER, "tick": TICK},
    paces.number_row: {"display": DISPLAY, "counter": COUNTER, "first": TICK, "period": PERIOD, "many": PICTURES},
    paces.paced_history: {"display": DISPLAY, "counter": COUNTER, "begin": TICK, "end": END},
    paces.seen_steps: {"display": DISPLAY, "pace": PERIOD, "period": PERIOD},
    paces.first_step: {"display": DISPLAY, "counter": COUNTER, "first": TICK, "period": PERIOD, "step": NUMBER},
    paces.count_steps: {
        "display": DISPLAY, "counter": COUNTER, "first": TICK, "period": PERIOD, "step": NUMBER, "many": INDEX,
    },
    paces.row_again: {"display": DISPLAY, "pace": PERIOD, "period": PERIOD},
    faults.seen_with: {"faults": FAULTS, "digit": DIGIT},
    faults.digits_alike: {"faults": FAULTS},
    faults.can_tell: {"faults": FAULTS},
    faults.read_with: {"faults": FAULTS, "pattern": PATTERN},
    faults.numbers_seen: {"row": ROW, "picture": TWO_PATTERNS},
    faults.segment_states: {"tests": TESTS},
    faults.first_contradiction: {"tests": TESTS},
    faults.count_faults: {"tests": TESTS},
    faults.next_digits: {"tests": TESTS},
    live.Panel: {"display": DISPLAY, "number": NUMBER},
    texts.parse_display: {"text": DISPLAY_TEXT},
    texts.parse_history: {"display": DISPLAY, "text": HISTORY_TEXT},
    texts.parse_picture: {"display": DISPLAY, "text": PICTURE_TEXT},
}

# These take any value as their last argument, which is no error whatever it is.
JUDGES = {
    pictures.is_history: ({"display": DISPLAY}, [(199, [9]), (1000, []), (199, [9, 9])]),
    clear.shows_dark: ({"display": DISPLAY, "camera": CAMERA}, [(0, 0), (30, 3), (-1, 0)]),
    lies.shows_lie: ({"display": DISPLAY, "camera": CAMERA, "number": NUMBER}, [(0, 10), (0, 3), (10 ** 29, -10 ** 29)]),
    told.shows_history: (
        {"display": DISPLAY, "camera": CAMERA, "gap": GAP, "film": FITTING}, [(111, []), (110, [0]), (111, [5, 44]), (1000, [])],
    ),
}


class Sequence(unittest.TestCase):
    def refused(self, function, values, error_class, field, names=None):
        error = called(function, *values)
        self.assertIs(type(error), error_class, (function, values))
        self.assertEqual(str(error), str(called(function, **dict(zip(names or KINDS[function], values)))))
        # Errors without a field have no index and no word at all.
        self.assertEqual(getattr(error, "index", getattr(error, "word", "")), field, (function, values))

    def test_names_of_the_arguments(self):
        for function, kinds in KINDS.items():
            self.assertEqual(list(inspect.signature(function).parameters), list(kinds), function)
        self.assertEqual(list(inspect.signature(segments.is_pattern).parameters), ["value"])
        self.assertEqual(list(inspect.signature(displays.is_display).parameters), ["value"])
        for function, (kinds, _) in JUDGES.items():
            self.assertEqual(list(inspect.signature(function).parameters), [*kinds, "value"], function)

    def test_good_arguments_stay_as_they_are(self):
        for function, kinds in KINDS.items():
            answer = called(function, *[good for good, _ in kinds.values()])
            self.assertNotIsInstance(answer, Exception, function)
            self.assertEqual(answer, called(function, **{name: kinds[name][0] for name in reversed(kinds)}))

    def test_each_argument_wrong_by_itself(self):
        for function, kinds in KINDS.items():
            good = [good for good, _ in kinds.values()]
            for index, (_, wrong) in enumerate(kinds.values()):
                for value, error_class, field in wrong:
                    self.refused(function, [*good[:index], value, *good[index + 1:]], error_class, field)

    def test_several_wrong_arguments(self):
        for function, kinds in KINDS.items():
            names = list(kinds)
            for many in range(2, len(names) + 1):
                for some in itertools.combinations(names, many):
                    for turn in range(3):
                        self.several(function, kinds, some, turn)

    def several(self, function, kinds, some, turn):
        """All of some arguments are wrong: the error of the first one is raised, for each of its wrong values."""
        for value, error_class, field in kinds[some[0]][1]:
            values = []
            for name, (good, wrong) in kinds.items():
                values.append(wrong[turn % len(wrong)][0] if name in some else good)
            values[list(kinds).index(some[0])] = value
            self.refused(function, values, error_class, field)

    def test_any_value_is_judged(self):
        for function, (kinds, others) in JUDGES.items():
            good = [good for good, _ in kinds.values()]
            for value in [*others, *NO_INTEGERS, [0, 0], 5]:
                answer = called(function, *good, value)
                self.assertIn(answer, (True, False), (function, value))
                self.assertIs(called(function, **dict(zip(kinds, good)), value=value), answer)

    def test_the_other_arguments_of_judges_are_checked_first(self):
        for function, (kinds, others) in JUDGES.items():
            good = [good for good, _ in kinds.values()]
            for index, (_, wrong) in enumerate(kinds.values()):
                # What stands behind the wrong argument is wrong, too, every other time.
                later = [some[1][0][0] for some in list(kinds.values())[index + 1:]]
                for value, error_class, field in wrong:
                    for judged in (*others, None, ""):
                        for behind in (good[index + 1:], later):
                            values = [*good[:index], value, *behind, judged]
                            self.refused(function, values, error_class, field, [*kinds, "value"])

    def test_huge_integers_are_refused_as_others_are(self):
        huge = 10 ** 5000
        self.refused(displays.nth_lit, [DISPLAY[0], 1, 0, -huge], InvalidNumber, "")
        self.refused(displays.is_lit, [DISPLAY[0], huge, 0], InvalidPlace, "")
        self.refused(displays.round_of, [(huge, 1, 1, "now")], InvalidDisplay, 0)
        self.refused(segments.pattern_of, [huge], InvalidDigit, "")
        self.refused(pictures.film_of, [DISPLAY[0], (30, 4), (3, []), 0, 30, huge], InvalidNumber, "")
        self.refused(pictures.count_at, [DISPLAY[0], (huge, []), 0], InvalidHistory, 0)
        self.refused(clear.seen_begins, [DISPLAY[0], CAMERA[0], huge], InvalidPlace, "")
        self.refused(clear.least_exposure, [DISPLAY[0], -huge], InvalidNumber, "")
        self.refused(drift.count_dark, [DISPLAY[0], CAMERA[0], 0, 30, -huge], InvalidNumber, "")
        self.refused(torn.torn_readings, [DISPLAY[0], CAMERA[0], huge, 0], InvalidNumber, "")
        self.refused(lies.kind_of, [DISPLAY[0], -huge], InvalidNumber, "")
        self.assertIs(called(clear.shows_dark, DISPLAY[0], CAMERA[0], (huge, 0)), False)
        self.refused(told.numbers_at, [DISPLAY[0], CAMERA[0], 40, FITTING[0], huge], InvalidNumber, "")
        self.refused(films.film_fits, [DISPLAY[0], CAMERA[0], -huge, FILM[0]], InvalidNumber, "")
        self.refused(paces.paced_count, [DISPLAY[0], (huge, 0, 1), 0], InvalidCounter, 0)
        self.refused(paces.first_step, [DISPLAY[0], COUNTER[0], 0, 1, huge], InvalidNumber, "")

    def test_a_place_of_another_display(self):
        for places in range(1, 9):
            for place in range(-2, 10):
                answer = called(displays.is_lit, (places, 1, 1, "now"), place, 0)
                if 0 <= place < places:
                    self.assertIs(answer, place == 0)
                else:
                    self.assertIs(type(answer), InvalidPlace)


if __name__ == "__main__":
    unittest.main()
