"""Points 9 and 15."""

import random
import unittest

from litdigits import pictures
from litdigits.displays import lit_ticks
from litdigits.errors import InvalidCamera, InvalidNumber, InvalidPicture, InvalidTick
from litdigits.pictures import film_of, picture_of, reading_of, shown_at
from tests.helper import (
    ALL_PATTERNS, NO_INTEGERS, PATTERNS, STRANGE, AtOnce, called, lists_in, lit_by_turns, picture_by_turns,
    small_displays,
)

DISPLAY = (3, 10, 8, "now")
MANY = list(range(-600, 600))

NO_TUPLES_OF_TWO = [
    [30, 4], (), (30,), (30, 4, 1), (30, 4, None), ((30, 4),), [(30, 4)], "30 4", "34", [], [30], {0: 30, 1: 4}, 30,
    *NO_INTEGERS,
]
NO_CAMERA_NUMBERS = [0, -1, -30, -10 ** 30, *NO_INTEGERS]
DIGITS = {pattern: digit for digit, pattern in PATTERNS.items()}


def numeral(display, number):
    """The picture of a steady number of which everything is seen."""
    return [PATTERNS[int(letter)] for letter in str(number).zfill(display[0])]


class TickByTick(unittest.TestCase):
    def check(self, display, camera, history, begin):
        found = picture_of(display, camera, history, begin)
        self.assertEqual(found, picture_by_turns(display, camera, history, begin), (display, camera, history, begin))

    def test_one_press_anywhere(self):
        for display in [(1, 3, 2, "now"), (1, 4, 4, "round"), (2, 3, 2, "now"), (2, 2, 2, "round"), (3, 2, 1, "round")]:
            for number in (3, 8, 9, 10 ** display[0] - 1):
                for press in range(-9, 20):
                    for need in (1, 2, 3, 4):
                        self.check(display, (9, need), (number, [press]), -2)

    def test_all_begins_and_needs(self):
        for display in [(1, 10, 7, "now"), (1, 5, 4, "round"), (2, 4, 3, "now"), (2, 3, 2, "round")]:
            for begin in range(-12, 13):
                for need in range(1, 12):
                    self.check(display, (10, need), (8, [-2, 3, 5, 6]), begin)

    def test_all_small_displays(self):
        choice = random.Random(9)
        for display in small_displays(3, 4):
            for _ in range(25):
                presses = sorted(choice.sample(range(-25, 40), choice.randrange(12)))
                history = (choice.randrange(10 ** display[0]), presses)
                camera = (choice.randrange(1, 30), choice.randrange(1, 9))
                self.check(display, camera, history, choice.randrange(-30, 30))

    def test_larger_displays(self):
        choice = random.Random(15)
        for places in range(4, 9):
            for driver in ("now", "round"):
                for _ in range(12):
                    slot = choice.randrange(1, 9)
                    display = (places, slot, choice.randrange(1, slot + 1), driver)
                    presses = sorted(choice.sample(range(-99, 200), choice.randrange(30)))
                    history = (10 ** places - choice.randrange(1, 12), presses)
                    camera = (choice.randrange(1, 100), choice.randrange(1, 10))
                    self.check(display, camera, history, choice.randrange(-50, 50))

    def test_several_presses_in_one_lit_time_of_a_place(self):
        for display in [(1, 12, 12, "now"), (1, 12, 9, "now"), (1, 12, 12, "round"), (2, 12, 10, "now"), (2, 6, 6, "round")]:
            for presses in ([1, 2, 3, 4], [0, 5, 6, 11, 12], list(range(-20, 25)), list(range(0, 24, 2)), [13, 14, 15, 20]):
                for need in range(1, 14):
                    self.check(display, (24, need), (7, presses), 0)
                    self.check(display, (17, need), (96 % 10 ** display[0], presses), 5)

    def test_exposure_of_one_tick(self):
        for driver in ("now", "round"):
            for tick in range(-30, 60):
                display, history = (3, 10, 8, driver), (199, [-3, 9, 10, 24, 41])
                expected = ["", "", ""]
                for place in range(3):
                    if lit_by_turns(display, place, tick):
                        expected[place] = numeral(display, shown_at(display, history, tick))[place]
                self.assertEqual(picture_of(display, (1, 1), history, tick), expected)
                self.assertEqual(picture_of(display, (1, 2), history, tick), ["", "", ""])

    def test_needs_up_to_what_is_lit_and_beyond(self):
        # In an exposure of two rounds each place is lit for 16 ticks.
        for begin in range(-30, 31):
            self.assertEqual(picture_of(DISPLAY, (60, 16), (407, []), begin), ["bcfg", "abcdef", "abc"])
            self.assertEqual(picture_of(DISPLAY, (60, 17), (407, []), begin), ["", "", ""])
            self.assertEqual(picture_of(DISPLAY, (60, 61), (407, []), begin), ["", "", ""])
            self.assertEqual(picture_of(DISPLAY, (60, 10 ** 30 - 1), (407, []), begin), ["", "", ""])

    def test_ticks_add_up_that_are_not_side_by_side(self):
        display = (1, 10, 8, "now")
        history = (8, [3, 5, 6, 13])
        for need in range(1, 18):
            self.check(display, (20, need), history, 0)
        # Eight ticks of each round, and the e of the 8 and of the 0 ahead of the 9 and behind it.
        self.assertEqual(picture_of(display, (20, 16), (3, []), 0), ["abcdg"])
        self.assertEqual(picture_of(display, (20, 17), (3, []), 0), [""])
        self.assertEqual(picture_of(display, (20, 7), (8, [2, 13]), 0), ["abcdefg"])
        self.assertEqual(picture_of(display, (20, 8), (8, [2, 13]), 0), ["abcdfg"])

    def test_every_press_within_the_exposure_of_a_round(self):
        display = (3, 10, 8, "round")
        for press in range(-31, 62):
            for begin in (0, 15, 29, 30, -1):
                self.check(display, (30, 4), (199, [press, press + 1]), begin)


class LargeNumbers(unittest.TestCase):
    """Thresholds are compared with sums of lit ticks, which test_displays.py tests by themselves."""

    def check_thresholds(self, display, exposure, history, begin, changes):
        """Compares with what the stretches between some ticks, at which the number shown changes, give."""
        bounds = [begin, *changes, begin + exposure]
        for place in range(display[0]):
            ticks = dict.fromkeys("abcdefg", 0)
            for left, right in zip(bounds, bounds[1:]):
                digit = numeral(display, shown_at(display, history, left))[place]
                for segment in digit:
                    ticks[segment] += lit_ticks(display, place, left, right)
            for need in sorted({some + past for some in ticks.values() for past in (-1, 0, 1) if some + past > 0}):
                expected = "".join(segment for segment in "abcdefg" if ticks[segment] >= need)
                found = called(picture_of, display, (exposure, need), history, begin)
                self.assertEqual(found[place], expected, (place, need))

    def test_exposures_of_29_digits(self):
        exposure = 10 ** 28 + 12345678901
        for display in [DISPLAY, (1, 7, 3, "now"), (8, 10 ** 26 + 3, 10 ** 25, "now")]:
            for begin in (0, -10 ** 28 - 7, 10 ** 29 + 1):
                middle = begin + exposure // 2 + 5
                changes = [begin + 1, begin + exposure // 3, middle, middle + 1, begin + exposure - 1]
                history = (8, [begin - 10 ** 20, begin, *changes, begin + exposure])
                with AtOnce():
                    self.check_thresholds(display, exposure, history, begin, changes)

    def test_exposures_of_29_digits_by_the_round(self):
        exposure = 10 ** 28 + 12345678901
        for display in [(3, 10, 8, "round"), (2, 9, 9, "round"), (8, 10 ** 26 + 3, 10 ** 25, "round")]:
            turn = display[0] * display[1]
            for begin in (0, -10 ** 28 - 7, 10 ** 29 + 1):
                multiple = (begin + exposure // 2) // turn * turn
                # Two presses in one round are shown from one multiple on, and one beside it from the next one on.
                history = (7, [begin - 10 ** 28, multiple - 1, multiple, multiple + 1, begin + exposure + turn])
                with AtOnce():
                    self.check_thresholds(display, exposure, history, begin, [multiple, multiple + turn])

    def test_exact_lit_ticks(self):
        # One round has 30 ticks; the last place is lit from 20 to 27 in each.
        rounds = 10 ** 27
        exposure = 30 * rounds
        for need, expected in [(8 * rounds, ["abcdef", "abcdef", "abcdg"]), (8 * rounds + 1, ["", "", ""])]:
            self.assertEqual(picture_of(DISPLAY, (exposure, need), (3, []), 0), expected)
        press = 30 * (rounds // 2) + 24
        three, four = 8 * (rounds // 2) + 4, 8 * (rounds // 2) - 4
        for need, expected in [(four, "abcdfg"), (four + 1, "abcdg"), (three, "abcdg"), (three + 1, "bcg"),
                               (8 * rounds, "bcg"), (8 * rounds + 1, "")]:
            self.assertEqual(picture_of(DISPLAY, (exposure, need), (3, [press]), 0)[2], expected, need)

    def test_1200_presses(self):
        with AtOnce():
            self.check_thresholds((1, 10, 8, "now"), 1201, (8, MANY), -600, MANY[1:])
            self.check_thresholds((3, 10, 8, "now"), 1100, (950, MANY), -550, list(range(-549, 550)))
            self.check_thresholds((3, 2, 2, "round"), 1201, (950, MANY), -600, list(range(-594, 601, 6)))

    def test_1200_presses_tick_by_tick(self):
        for display in [(2, 5, 4, "now"), (2, 5, 4, "round")]:
            for camera, begin in [((100, 4), -650), ((150, 7), -40), ((99, 3), 550)]:
                found = picture_of(display, camera, (93, MANY), begin)
                self.assertEqual(found, picture_by_turns(display, camera, (93, MANY), begin))

    def test_1200_presses_in_an_exposure_of_29_digits(self):
        step = 10 ** 25 + 9
        presses = [step * many + many * many for many in range(1, 1201)]
        exposure = step * 1205
        for display in [(8, 10 ** 24 + 7, 10 ** 24 - 9, "now"), (3, 10, 8, "now")]:
            with AtOnce():
                picture = picture_of(display, (exposure, 1), (99999999 % 10 ** display[0], presses), 0)
            self.assertEqual(picture[-1], "abcdefg")
        # A single place is always lit, so each number has the ticks up to the next press.
        gaps = [right - left for left, right in zip([0, *presses], [*presses, exposure])]
        ticks = {segment: sum(gap for many, gap in enumerate(gaps) if segment in PATTERNS[many % 10]) for segment in "abcdefg"}
        for need in sorted({some + past for some in ticks.values() for past in (0, 1)}):
            expected = "".join(segment for segment in "abcdefg" if ticks[segment] >= need)
            self.assertEqual(picture_of((1, 9, 9, "now"), (exposure, need), (0, presses), 0), [expected])

    def test_many_presses_tick_by_tick(self):
        # Some displays have many of the presses in a round, some one, some have many rounds between two of them.
        choice = random.Random(1200)
        for display in [(1, 1, 1, "round"), (1, 9, 5, "round"), (2, 5, 4, "round"), (3, 10, 8, "round"), (3, 400, 300, "round"),
                        (8, 2, 1, "round"), (1, 1, 1, "now"), (2, 5, 4, "now"), (3, 10, 8, "now"), (8, 2, 2, "now")]:
            for step in (1, 2, 7, 40):
                presses = [step * many + choice.randrange(step) for many in range(-400, 800)]
                for exposure in (7, 60, 250):
                    begin = choice.randrange(-420, 850) * step
                    camera = (exposure, choice.choice([1, 2, 4, exposure // 8 + 1]))
                    history = (choice.randrange(10 ** display[0]), presses)
                    found = called(picture_of, display, camera, history, begin)
                    self.assertEqual(found, picture_by_turns(display, camera, history, begin), (display, step, camera, begin))

    def test_1200_presses_in_great_rounds(self):
        slot = 10 ** 26 + 9
        display = (3, slot, slot - 10 ** 20, "round")
        turn = 3 * slot
        # All of them in one round, each in a round of its own, and a hundred in each of twelve rounds.
        for presses in [
            [5 * turn + 1 + many for many in range(1200)], [turn * many + many for many in range(1200)],
            [turn * many + past for many in range(12) for past in range(100)],
        ]:
            last = presses[-1]
            changes = [multiple for multiple in range(turn, last + turn + 1, turn)]
            with AtOnce():
                self.check_thresholds(display, last + turn, (950, presses), 1, changes)

    def test_film_of_60_pictures_with_1200_presses_is_made_at_once(self):
        with AtOnce(30):
            film = film_of((8, 10, 8, "now"), (1300, 4), (0, MANY), -650, 1, 60)
        self.assertEqual(len(film), 60)
        self.assertEqual(film[59], picture_by_turns((8, 10, 8, "now"), (1300, 4), (0, MANY), -591))


class Cameras(unittest.TestCase):
    def refused(self, camera, index):
        for function, others in [(picture_of, ((3, [24]), 0)), (film_of, ((3, [24]), 0, 30, 3))]:
            error = called(function, DISPLAY, camera, *others)
            self.assertIs(type(error), InvalidCamera, repr(camera))
            self.assertEqual(error.index, index)
            self.assertIs(type(error.index), type(index))

    def test_no_tuple_of_two_items(self):
        for value in NO_TUPLES_OF_TWO:
            self.refused(value, None)

    def test_wrong_items(self):
        for value in NO_CAMERA_NUMBERS:
            self.refused((value, 4), 0)
            self.refused((30, value), 1)
            self.refused((value, 0), 0)
            self.refused((value, value), 0)

    def test_need_above_exposure_is_a_camera(self):
        self.assertEqual(picture_of(DISPLAY, (1, 30), (3, []), 0), ["", "", ""])


class Readings(unittest.TestCase):
    def test_all_numbers(self):
        for places in (1, 2, 3):
            display = (places, 10, 8, "now")
            for number in range(10 ** places):
                self.assertEqual(reading_of(display, numeral(display, number)), number)
        for number in (0, 1, 90000000, 12345678, 99999999):
            display = (8, 10, 8, "round")
            self.assertEqual(called(reading_of, display, numeral(display, number)), number)

    def test_each_pattern(self):
        for pattern in ALL_PATTERNS:
            digit = DIGITS.get(pattern)
            self.assertEqual(called(reading_of, (1, 1, 1, "now"), [pattern]), digit)
            self.assertEqual(called(reading_of, DISPLAY, [pattern, "bc", "abc"]), None if digit is None else 100 * digit + 17)
            self.assertEqual(called(reading_of, DISPLAY, ["bc", pattern, "abc"]), None if digit is None else 10 * digit + 107)
            self.assertEqual(called(reading_of, DISPLAY, ["bc", "abc", pattern]), None if digit is None else digit + 170)

    def test_dark_patterns(self):
        for picture in (["", "", ""], ["", "abcdef", "abcdef"], ["abcdef", "", "bc"], ["bc", "bc", ""]):
            self.assertIsNone(called(reading_of, DISPLAY, picture))

    def test_several_patterns_of_no_digit(self):
        self.assertIsNone(reading_of(DISPLAY, ["a", "b", "c"]))
        self.assertIsNone(reading_of(DISPLAY, ["bc", "b", ""]))

    def refused(self, picture, index, display=DISPLAY):
        error = called(reading_of, display, picture)
        self.assertIs(type(error), InvalidPicture, repr(picture)[:80])
        self.assertEqual(error.index, index)
        self.assertIs(type(error.index), type(index))

    def test_no_list_of_as_many_items(self):
        right = ["bc", "abc", "bc"]
        for value in [tuple(right), right[:2], [*right, "bc"], [], ["bc"], [right], "bc abc bc", "abc", *NO_INTEGERS]:
            self.refused(value, None)
        for places in range(1, 9):
            for many in range(11):
                if many != places:
                    self.refused([""] * many, None, (places, 1, 1, "now"))
                    self.refused([None] * many, None, (places, 1, 1, "now"))

    def test_items_that_are_no_patterns(self):
        for wrong in [*STRANGE, 0, 8, "cb", "aa", "h", "A", "-", " ", ["bc"], ("bc",), []]:
            self.refused([wrong, "bc", ""], 0)
            self.refused(["bc", wrong, ""], 1)
            self.refused(["bc", "", wrong], 2)
            self.refused(["bc", wrong, wrong], 1)
            self.refused([wrong, "ba", None], 0)
            # A pattern of no digit ahead of it does not hide what is no pattern.
            self.refused(["a", "", wrong], 2)


class Films(unittest.TestCase):
    def test_against_single_pictures(self):
        history = (197, [-31, -2, 9, 24, 25, 58, 77])
        for driver in ("now", "round"):
            display = (3, 10, 8, driver)
            for exposure in (1, 10, 30):
                for period in (1, 7, 29, 30, 31, 100, 10 ** 29):
                    for first in (-40, 0, 13):
                        film = called(film_of, display, (exposure, 4), history, first, period, 7)
                        begins = [first, first + period, first + 2 * period, first + 3 * period, first + 4 * period,
                                  first + 5 * period, first + 6 * period]
                        single = [picture_of(display, (exposure, 4), history, begin) for begin in begins]
                        self.assertEqual(film, single)

    def test_periods_less_than_the_exposure_as_long_and_longer(self):
        history = (98, [3, 11, 12, 20, 33])
        for display in [(2, 5, 4, "now"), (2, 5, 4, "round")]:
            for period in (1, 9, 10, 11, 25):
                film = film_of(display, (10, 2), history, -10, period, 8)
                expected = [picture_by_turns(display, (10, 2), history, -10 + index * period) for index in range(8)]
                self.assertEqual(film, expected)

    def test_numbers_of_pictures(self):
        self.assertEqual(called(film_of, DISPLAY, (30, 4), (3, [24]), 0, 30, 0), [])
        self.assertEqual(called(film_of, DISPLAY, (30, 4), (3, []), 0, 30, 1), [["abcdef", "abcdef", "abcdg"]])
        film = called(film_of, DISPLAY, (30, 4), (940, [30 * many for many in range(60)]), 0, 30, 60)
        self.assertEqual([reading_of(DISPLAY, picture) for picture in film], list(range(941, 1000)) + [0])
        for many in (61, 62, -1, 10 ** 30, -10 ** 30, *NO_INTEGERS):
            error = called(film_of, DISPLAY, (30, 4), (3, [24]), 0, 30, many)
            self.assertIs(type(error), InvalidNumber, repr(many))

    def test_wrong_periods_and_firsts(self):
        for period in (0, -1, -30, *NO_INTEGERS):
            for many in (0, 1, 60):
                error = called(film_of, DISPLAY, (30, 4), (3, [24]), 0, period, many)
                self.assertIs(type(error), InvalidNumber, repr(period))
        for first in NO_INTEGERS:
            for many in (0, 1, 60):
                error = called(film_of, DISPLAY, (30, 4), (3, [24]), first, 30, many)
                self.assertIs(type(error), InvalidTick, repr(first))

    def test_wrong_begins(self):
        for begin in NO_INTEGERS:
            self.assertIs(type(called(picture_of, DISPLAY, (30, 4), (3, [24]), begin)), InvalidTick, repr(begin))


class NewObjects(unittest.TestCase):
    def test_no_two_lists_are_one(self):
        history = (3, [24])
        answers = [
            film_of(DISPLAY, (30, 4), history, 0, 30, 60), film_of(DISPLAY, (30, 4), history, 0, 30, 60),
            film_of(DISPLAY, (30, 4), history, 0, 30, 0), film_of(DISPLAY, (30, 4), history, 0, 30, 0),
            picture_of(DISPLAY, (30, 4), history, 0), picture_of(DISPLAY, (30, 4), history, 0),
        ]
        found = [some for answer in answers for some in lists_in(answer)]
        self.assertEqual(len(found), 2 * 61 + 2 + 2)
        self.assertEqual(len({id(some) for some in [*found, history[1]]}), len(found) + 1)

    def test_changed_answers_change_no_later_ones(self):
        history = (3, [24])
        expected = ["abcdef", "abcdef", "abcdfg"]
        picture = picture_of(DISPLAY, (30, 4), history, 0)
        picture[0] = "changed"
        picture.clear()
        film = film_of(DISPLAY, (30, 4), history, 0, 30, 2)
        film[0][1] = "changed"
        film[1].clear()
        film.pop()
        self.assertEqual(picture_of(DISPLAY, (30, 4), history, 0), expected)
        self.assertEqual(film_of(DISPLAY, (30, 4), history, 0, 30, 2), [expected, ["abcdef", "abcdef", "bcfg"]])
        self.assertEqual(history, (3, [24]))

    def test_no_reference_is_kept(self):
        presses = [24]
        first = picture_of(DISPLAY, (30, 4), (3, presses), 0)
        presses[0] = 100
        self.assertEqual(picture_of(DISPLAY, (30, 4), (3, presses), 0), ["abcdef", "abcdef", "abcdg"])
        self.assertEqual(first, ["abcdef", "abcdef", "abcdfg"])


class Interface(unittest.TestCase):
    def test_arguments_by_name(self):
        picture = picture_of(begin=0, history=(3, [24]), camera=(30, 4), display=DISPLAY)
        self.assertEqual(picture, ["abcdef", "abcdef", "abcdfg"])
        self.assertEqual(reading_of(picture=picture, display=DISPLAY), 9)
        film = film_of(many=2, period=30, first=0, history=(3, [24]), camera=(30, 4), display=DISPLAY)
        self.assertEqual(film, [picture, ["abcdef", "abcdef", "bcfg"]])

    def test_defined_here(self):
        for name in ["picture_of", "reading_of", "film_of"]:
            self.assertEqual(getattr(pictures, name).__module__, "litdigits.pictures")


if __name__ == "__main__":
    unittest.main()
