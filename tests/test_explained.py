"""Point 23."""

import random
import unittest

from litdigits.errors import InvalidPicture, InvalidTick
from litdigits.explained import explanations_of, is_explained, numbers_behind
from litdigits.pictures import picture_of
from litdigits.segments import common_of, pattern_of, union_of
from litdigits.torn import TORN_DIGITS, TORN_PATTERNS, press_span, torn_pictures
from tests.helper import (
    ALL_PATTERNS, NO_INTEGERS, PATTERNS, STRANGE, AtOnce, PicturesByTurns, called, cameras_around, lists_in,
    small_displays, span_by_turns, stretches_of,
)

DISPLAY, CAMERA = (3, 10, 8, "now"), (30, 4)


def all_explanations(display, camera, begin):
    """A dict of all pictures, as tuples, that a number with at most one press has: what explains each of them."""
    pictures = PicturesByTurns(display, camera)
    found = {}
    for number in range(10 ** display[0]):
        steady = tuple(pictures.picture((number, []), begin))
        found.setdefault(steady, []).append((number, None))
        presses = {}
        for press in span_by_turns(display, camera, begin):
            presses.setdefault(tuple(pictures.picture((number, [press]), begin)), []).append(press)
        for picture, some in presses.items():
            found.setdefault(picture, []).extend((number, stretch) for stretch in stretches_of(some))
    return found


def by_torn_pictures(display, camera, begin, picture):
    """What explains a picture, by the steady pictures and the torn ones of all numbers."""
    found = []
    for number in range(10 ** display[0]):
        if picture_of(display, camera, (number, []), begin) == picture:
            found.append((number, None))
        rows = torn_pictures(display, camera, number, begin)
        found += [(number, (least, greatest)) for least, greatest, some in rows if some == picture]
    return found


class Tables(unittest.TestCase):
    def test_torn_patterns_and_digits(self):
        for digit in range(10):
            old, new = pattern_of(digit), pattern_of((digit + 1) % 10)
            expected = (common_of(old, new), old, new, union_of(old, new), "")
            self.assertEqual(TORN_PATTERNS[digit], expected)
            by_pattern = {pattern: some for some, pattern in PATTERNS.items()}
            self.assertEqual(TORN_DIGITS[digit], tuple(by_pattern.get(pattern) for pattern in expected))


class AllNumbersAndPresses(unittest.TestCase):
    def compare(self, display, camera, begin):
        """Compares what is told of all pictures that there are, and of some that there are not."""
        found = all_explanations(display, camera, begin)
        choice = random.Random(23)
        some = [choice.choice(list(found)) for _ in range(6)]
        for picture in list(found):
            index = choice.randrange(display[0])
            some.append((*picture[:index], choice.choice(ALL_PATTERNS), *picture[index + 1:]))
        for picture in [*found, *some, ("", ) * display[0], ("g", ) * display[0]]:
            expected = found.get(picture, [])
            given = (display, camera, begin, list(picture))
            self.assertEqual(called(explanations_of, *given), expected, given)
            numbers = sorted({number for number, _ in expected})
            self.assertEqual(numbers_behind(*given), numbers, given)
            self.assertIs(is_explained(*given), expected != [], given)
        return len(found)

    def test_one_place(self):
        for display in small_displays(1, 4) + [(1, 7, 5, "now"), (1, 7, 5, "round"), (1, 6, 6, "round")]:
            for camera in cameras_around(display):
                if camera[0] <= 4 * display[1] + 4:
                    for begin in (-3, 0, 1, 5):
                        self.compare(display, camera, begin)

    def test_two_places(self):
        choice = random.Random(5)
        for display in [(2, 3, 2, "now"), (2, 3, 3, "round"), (2, 4, 3, "round"), (2, 4, 4, "now"), (2, 2, 1, "now"), (2, 1, 1, "round")]:
            cameras = [camera for camera in cameras_around(display) if 2 <= camera[0] <= 2 * display[0] * display[1] + 1]
            for camera in choice.sample(cameras, 6):
                self.compare(display, camera, choice.randrange(-9, 9))

    def test_three_places(self):
        for display, camera in [((3, 2, 2, "now"), (7, 1)), ((3, 2, 2, "round"), (9, 2))]:
            self.compare(display, camera, 1)

    def test_numbers_that_are_pressed_past_the_greatest_one(self):
        display, camera = (2, 10, 8, "now"), (20, 4)
        # 99 becomes 00 between the places: 9 ahead, 0 behind.
        found = explanations_of(display, camera, 0, ["abcdfg", "abcdef"])
        self.assertEqual(found, [(39, (4, 4)), (49, (4, 4)), (89, (1, 3)), (90, None), (90, (14, 19)), (99, (5, 13))])
        self.assertEqual(numbers_behind(display, camera, 0, ["abcdfg", "abcdef"]), [39, 49, 89, 90, 99])

    def test_both_of_a_steady_number_and_its_presses(self):
        # Within the span, but when the place is no longer lit, a press is not seen.
        display, camera = (1, 10, 8, "now"), (10, 1)
        self.assertEqual(explanations_of(display, camera, 0, ["bcfg"]), [(4, None), (4, (8, 9))])
        self.assertEqual(explanations_of(display, camera, 1, ["bcfg"]), [(4, None)])

    def test_two_stretches_of_one_number(self):
        # 6 to 7 and 8: the 8 of both, with the 6 first and last; of 8 to 9 the 8 is there with all presses.
        display, camera = (1, 10, 8, "now"), (20, 4)
        found = called(explanations_of, display, camera, 0, ["abcdefg"])
        self.assertEqual(found, [(6, (4, 14)), (7, (1, 14)), (8, None), (8, (4, 19)), (9, (4, 14))])


class GreatNumbers(unittest.TestCase):
    def test_three_places_against_torn_pictures(self):
        choice = random.Random(1)
        for _ in range(12):
            slot = choice.choice([10, 10 ** 28, choice.randrange(1, 10 ** 28)])
            lit = choice.choice([slot, (4 * slot + 4) // 5, 1])
            display = (3, slot, lit, choice.choice(["now", "round"]))
            exposure = choice.choice([3 * slot, 3 * slot - lit + 1, 7 * slot + 3, 2 * slot])
            camera = (exposure, choice.choice([1, (lit + 1) // 2, lit // 2 + 1, lit]))
            begin = choice.randrange(-10 ** 28, 10 ** 28)
            for number in (199, 3, choice.randrange(1000)):
                span = press_span(display, camera, begin)
                press = choice.randrange(span[0], span[1] + 1) if span else begin
                picture = picture_of(display, camera, (number, [press]), begin)
                given = (display, camera, begin, picture)
                found = called(explanations_of, *given)
                self.assertEqual(found, by_torn_pictures(*given), given)
                self.assertTrue(found)
                self.ends(*given, found)

    def ends(self, display, camera, begin, picture, found):
        """At the ends of each stretch the picture is this one, beside them it is another or the span is over."""
        span = press_span(display, camera, begin)
        for number, stretch in found[:40]:
            if stretch is None:
                continue
            for press, inside in [(stretch[0], True), (stretch[1], True), (stretch[0] - 1, False), (stretch[1] + 1, False)]:
                same = picture_of(display, camera, (number, [press]), begin) == picture
                if span[0] <= press <= span[1]:
                    self.assertIs(same, inside)
                else:
                    self.assertFalse(inside)

    def test_exposures_of_many_rounds(self):
        display, camera = (3, 10 ** 28, 8 * 10 ** 27, "round"), (9 * 10 ** 28, 10 ** 28)
        picture = picture_of(display, camera, (199, [3 * 10 ** 28 + 1]), 5)
        with AtOnce():
            found = called(explanations_of, display, camera, 5, picture)
        self.assertEqual(found, by_torn_pictures(display, camera, 5, picture))

    def test_wholly_dark_pictures(self):
        for places in (1, 2, 3):
            display = (places, 10 ** 28, 10 ** 28, "now")
            camera = (places * 10 ** 28, 10 ** 28 + 1)
            with AtOnce():
                found = called(explanations_of, display, camera, 0, [""] * places)
            stretch = (1, places * 10 ** 28 - 1)
            self.assertEqual(found, [(number, way) for number in range(10 ** places) for way in (None, stretch)])
            self.assertEqual(called(numbers_behind, display, camera, 0, [""] * places), list(range(10 ** places)))
            self.assertEqual(called(explanations_of, display, (places * 10 ** 28, 10 ** 28), 0, [""] * places), [])
            self.assertIs(called(is_explained, display, (places * 10 ** 28, 10 ** 28), 0, [""] * places), False)

    def test_some_places_dark(self):
        # Of the three places only the middle one is seen, and a press is at least one tick behind its begin.
        found = called(numbers_behind, DISPLAY, (8, 8), 10, ["", "bcfg", ""])
        self.assertEqual(found, [number for number in range(1000) if number // 10 % 10 == 4])
        found = called(numbers_behind, DISPLAY, (8, 7), 10, ["", "bcfg", ""])
        self.assertEqual(found, [number for number in range(1000) if number // 10 % 10 == 4 or number % 100 == 39])
        self.assertEqual(called(numbers_behind, DISPLAY, (8, 7), 10, ["", "bcfg", "g"]), [])
        self.assertEqual(called(numbers_behind, DISPLAY, (8, 7), 10, ["", "", ""]), [])
        # In the other places nobody sees a press.
        found = called(explanations_of, DISPLAY, (8, 7), 10, ["", "abc", ""])
        self.assertEqual(found[:5], [(69, (11, 11)), (70, None), (70, (11, 17)), (71, None), (71, (11, 17))])


class Answers(unittest.TestCase):
    def test_no_press_within_an_exposure_of_one_tick(self):
        self.assertEqual(called(explanations_of, (1, 10, 8, "now"), (1, 1), 3, ["bc"]), [(1, None)])
        self.assertEqual(called(explanations_of, (1, 10, 8, "now"), (1, 1), 8, [""]), [(number, None) for number in range(10)])
        self.assertEqual(called(explanations_of, (1, 10, 8, "round"), (10, 1), 0, ["bc"]), [(1, None)])

    def test_patterns_of_no_digit(self):
        for pattern in ALL_PATTERNS:
            found = called(numbers_behind, (1, 10, 8, "now"), (10, 4), 0, [pattern])
            either = [union_of(pattern_of(digit), pattern_of((digit + 1) % 10)) for digit in range(10)]
            self.assertEqual(found != [], pattern in PATTERNS.values() or pattern in either, pattern)
            # With need 5 there is a press with which only what both digits have is seen.
            found = called(numbers_behind, (1, 10, 8, "now"), (10, 5), 0, [pattern])
            both = [common_of(pattern_of(digit), pattern_of((digit + 1) % 10)) for digit in range(10)]
            self.assertEqual(found != [], pattern in PATTERNS.values() or pattern in both, pattern)

    def test_wrong_pictures(self):
        for value, index in [
            (None, None), (("bc", "", "g"), None), (["bc", "g"], None), (["bc", "g", "a", "a"], None), ([], None),
            (["cb", "g", 5], 0), (["bc", "gg", 5], 1), (["bc", "g", "h"], 2), *[(some, None) for some in STRANGE],
        ]:
            for function in (explanations_of, numbers_behind, is_explained):
                error = called(function, DISPLAY, CAMERA, 0, value)
                self.assertIs(type(error), InvalidPicture, repr(value))
                self.assertEqual(error.index, index, repr(value))

    def test_wrong_begins(self):
        for begin in NO_INTEGERS:
            for function in (explanations_of, numbers_behind, is_explained):
                self.assertIs(type(called(function, DISPLAY, CAMERA, begin, None)), InvalidTick)

    def test_answers_are_new_lists(self):
        picture = ["bc", "abdeg", "abcdfg"]
        for function in (explanations_of, numbers_behind):
            one, other = function(DISPLAY, CAMERA, 0, picture), function(DISPLAY, CAMERA, 0, picture)
            self.assertEqual(one, other)
            self.assertEqual(len({id(some) for some in lists_in(one) + lists_in(other)}), 2)
            one.clear()
            self.assertEqual(function(DISPLAY, CAMERA, 0, picture), other)


if __name__ == "__main__":
    unittest.main()
