"""Points 19 and 20."""

import random
import unittest

from litdigits import torn
from litdigits.displays import lit_ticks
from litdigits.errors import InvalidNumber, InvalidPlace, InvalidTick
from litdigits.pictures import picture_of, reading_of, shown_at
from litdigits.torn import place_thresholds, press_span, torn_pictures, torn_readings
from tests.helper import (
    NO_INTEGERS, PATTERNS, AtOnce, called, cameras_around, lists_in, lit_until, picture_by_turns, presses_around,
    small_displays, torn_by_turns,
)

DISPLAY, CAMERA = (3, 10, 8, "now"), (30, 4)


def great_pictures(seed, many):
    """Displays with great slots, cameras that see some places, numbers and begins."""
    choice = random.Random(seed)
    for _ in range(many):
        places = choice.choice([1, 2, 3, 8])
        slot = choice.randrange(10 ** 24, 10 ** 27)
        lit = choice.choice([slot, slot - 1, choice.randrange(1, slot), slot // 2 + 1, 1])
        turn = places * slot
        exposure = choice.choice([turn, turn + 1, turn - slot // 9, 3 * turn + 5, choice.randrange(1, 10 ** 29)])
        need = max(1, exposure * lit // turn * choice.randrange(1, 11) // 10)
        ending = choice.choice([0, 9, 99, 999, 5])
        number = choice.randrange(10 ** places) // 1000 * 1000 + ending
        yield (
            (places, slot, lit, choice.choice(["now", "round"])), (exposure, need), min(number, 10 ** places - 1),
            choice.randrange(-10 ** 29, 10 ** 29),
        )


class Spans(unittest.TestCase):
    def test_against_all_presses(self):
        for display in small_displays(3, 3):
            turn = display[0] * display[1]
            for exposure in (1, 2, 3, turn, turn + 1, 2 * turn + 1):
                for begin in range(-turn - 1, turn + 2):
                    # A press is in the span if the number shown changes behind the begin and within the exposure.
                    presses = [
                        press for press in range(begin - turn - 1, begin + exposure + 2)
                        if shown_at(display, (0, [press]), begin) == 0
                        and shown_at(display, (0, [press]), begin + exposure - 1) == 1
                    ]
                    self.assertEqual(presses, presses_around(display, (exposure, 1), begin))
                    expected = (presses[0], presses[-1]) if presses else None
                    self.assertEqual(press_span(display, (exposure, 1), begin), expected, (display, exposure, begin))
                    self.assertEqual(presses, list(range(expected[0], expected[1] + 1)) if presses else [])

    def test_exposure_of_a_single_tick(self):
        for driver in ("now", "round"):
            for begin in range(-35, 65):
                display = (3, 10, 8, driver)
                self.assertIsNone(called(press_span, display, (1, 1), begin))
                self.assertEqual(called(torn_pictures, display, (1, 1), 3, begin), [])
                self.assertEqual(called(torn_readings, display, (1, 1), 3, begin), [])

    def test_no_multiple_of_the_round_in_the_span(self):
        display = (3, 10, 8, "round")
        for begin, exposure, expected in [
            (0, 30, None), (0, 31, (1, 30)), (1, 29, None), (1, 30, (1, 30)), (29, 2, (1, 30)), (30, 2, None), (-1, 2, (-29, 0)),
            (-30, 30, None), (-30, 31, (-29, 0)), (15, 45, (1, 30)), (15, 46, (1, 60)), (30 * 10 ** 28, 30, None),
        ]:
            self.assertEqual(called(press_span, display, (exposure, 4), begin), expected, (begin, exposure))
            if expected is None:
                self.assertEqual(called(torn_pictures, display, (exposure, 4), 199, begin), [])
                self.assertEqual(called(torn_readings, display, (exposure, 4), 199, begin), [])

    def test_great_numbers(self):
        for display, camera, _, begin in great_pictures(19, 100):
            span = called(press_span, display, camera, begin)
            last = begin + camera[0] - 1
            if span is None:
                self.assertTrue(camera[0] == 1 or display[3] == "round" and begin // (display[0] * display[1]) == last // (display[0] * display[1]))
                continue
            for press, inside in [(span[0] - 1, False), (span[0], True), (span[1], True), (span[1] + 1, False)]:
                history = (0, [press])
                self.assertIs(shown_at(display, history, begin) == 0 and shown_at(display, history, last) == 1, inside)


class TornPictures(unittest.TestCase):
    def compare(self, display, camera, number, begin, pictures):
        """Compares with the pictures of all presses of the span, one by one."""
        message = (display, camera, number, begin)
        rows = torn_pictures(display, camera, number, begin)
        self.check_rows(rows, [(press, picture) for press, picture in pictures], message)
        readings = [(press, reading_of(display, picture)) for press, picture in pictures]
        self.check_rows(torn_readings(display, camera, number, begin), readings, message)

    def check_rows(self, rows, expected, message):
        """There are as few rows as possible, and each press is in one of them, with its item."""
        shortest = []
        for press, item in expected:
            if shortest and shortest[-1][2] == item:
                shortest[-1] = (shortest[-1][0], press, item)
            else:
                shortest.append((press, press, item))
        self.assertEqual(rows, shortest, message)
        for row in rows:
            self.assertIs(type(row), tuple)

    def test_all_presses_of_small_displays(self):
        choice = random.Random(20)
        for display in small_displays(3, 4):
            turn = display[0] * display[1]
            most = 10 ** display[0] - 1
            cameras = cameras_around(display)
            for camera in choice.sample(cameras, min(4, len(cameras))):
                for begin in {0, -turn // 2, choice.randrange(-turn, turn), 10 ** 28 * turn + 1}:
                    presses = presses_around(display, camera, begin)
                    for number in {most, choice.randrange(most), choice.randrange(most) // 100 * 100 + 99, 3, 8}:
                        number = min(number, most)
                        pictures = [(press, picture_of(display, camera, (number, [press]), begin)) for press in presses]
                        self.compare(display, camera, number, begin, pictures)

    def test_tick_by_tick(self):
        for display in [(1, 7, 5, "now"), (2, 5, 4, "now"), (2, 4, 4, "round"), (3, 3, 2, "now"), (3, 2, 2, "round")]:
            turn = display[0] * display[1]
            for exposure in (turn - 1, turn, turn + 3, 2 * turn):
                for need in (1, 2, exposure // turn * display[2]):
                    if need > 0:
                        for number in (3, 9, 6, 10 ** display[0] - 1):
                            begin = -turn - 1
                            presses = presses_around(display, (exposure, need), begin)
                            pictures = [
                                (press, picture_by_turns(display, (exposure, need), (number, [press]), begin)) for press in presses
                            ]
                            self.compare(display, (exposure, need), number, begin, pictures)
                            for press, picture in pictures:
                                reading = torn_by_turns(display, (exposure, need), number, begin, press)
                                self.assertEqual(reading_of(display, picture), reading)

    def test_all_needs_and_begins(self):
        for driver in ("now", "round"):
            display = (2, 5, 4, driver)
            for need in range(1, 10):
                for begin in range(-10, 10):
                    presses = presses_around(display, (20, need), begin)
                    for number in (39, 67, 99):
                        pictures = [(press, picture_of(display, (20, need), (number, [press]), begin)) for press in presses]
                        self.compare(display, (20, need), number, begin, pictures)

    def test_numbers_with_nines_at_the_end(self):
        for places in range(1, 9):
            for driver in ("now", "round"):
                display = (places, 3, 2, driver)
                for nines in range(places + 1):
                    number = 10 ** places - 1 if nines == places else 4 * 10 ** nines - 1
                    for camera in [(3 * places, 1), (3 * places, 2), (6 * places + 1, 2)]:
                        presses = presses_around(display, camera, -7)
                        pictures = [(press, picture_of(display, camera, (number, [press]), -7)) for press in presses]
                        self.compare(display, camera, number, -7, pictures)

    def test_each_number(self):
        display, camera = (2, 4, 3, "now"), (9, 2)
        presses = presses_around(display, camera, 5)
        for number in range(100):
            pictures = [(press, picture_of(display, camera, (number, [press]), 5)) for press in presses]
            self.compare(display, camera, number, 5, pictures)

    def test_neighbours_without_a_reading_are_one(self):
        # At 5 the place has only the segments that 1 and 2 have in common, and that is no digit.
        self.assertEqual(called(torn_readings, (1, 10, 10, "now"), (10, 6), 1, 0), [(1, 4, 2), (5, 5, None), (6, 9, 1)])
        self.assertEqual(called(torn_readings, (1, 10, 8, "now"), (10, 9), 1, 0), [(1, 9, None)])
        self.assertEqual(called(torn_pictures, (1, 10, 8, "now"), (10, 9), 1, 0), [(1, 9, [""])])
        display = (2, 10, 10, "now")
        pictures = called(torn_pictures, display, (20, 6), 19, 0)
        readings = called(torn_readings, display, (20, 6), 19, 0)
        self.assertEqual(pictures, [
            (1, 4, ["abdeg", "abcdef"]), (5, 5, ["b", "abcdef"]), (6, 14, ["bc", "abcdef"]), (15, 15, ["bc", "abcdf"]),
            (16, 19, ["bc", "abcdfg"]),
        ])
        self.assertEqual(readings, [(1, 4, 20), (5, 5, None), (6, 14, 10), (15, 15, None), (16, 19, 19)])

    def test_rows_with_no_reading_side_by_side(self):
        # The last place changes while the first one is dark.
        display = (2, 10, 10, "now")
        pictures, readings = torn_pictures(display, (18, 9), 38, 4), torn_readings(display, (18, 9), 38, 4)
        self.assertGreater(len(pictures), 1)
        self.assertEqual(readings, [(5, 21, None)])

    def test_great_slots_and_exposures(self):
        several = 0
        for display, camera, number, begin in great_pictures(27, 250):
            span = press_span(display, camera, begin)
            rows = called(torn_pictures, display, camera, number, begin)
            readings = called(torn_readings, display, camera, number, begin)
            several += len(rows) > 2
            for answer, item_of in [(rows, list), (readings, lambda picture: reading_of(display, picture))]:
                self.assertEqual(len(answer) == 0, span is None)
                if span is not None:
                    self.assertEqual((answer[0][0], answer[-1][1]), span)
                for (_, greatest, one), (least, _, other) in zip(answer, answer[1:]):
                    self.assertEqual(least, greatest + 1)
                    self.assertNotEqual(one, other)
                for least, greatest, item in answer:
                    self.assertLessEqual(least, greatest)
                    for press in {least, (least + greatest) // 2, greatest}:
                        self.assertEqual(item_of(picture_of(display, camera, (number, [press]), begin)), item)
        self.assertGreater(several, 50)

    def test_greatest_number_and_begins_below_0(self):
        self.assertEqual(called(torn_readings, (1, 10, 10, "now"), (10, 5), 9, -10), [(-9, -6, 0), (-5, -5, 8), (-4, -1, 9)])
        self.assertEqual(called(torn_readings, (1, 10, 10, "round"), (10, 5), 9, -14), [(-19, -10, 0)])
        self.assertEqual(called(torn_readings, (1, 10, 10, "round"), (10, 5), 9, -15), [(-19, -10, 8)])
        self.assertEqual(called(torn_readings, (1, 10, 10, "round"), (10, 6), 9, -15), [(-19, -10, None)])

    def test_wrong_numbers_and_begins(self):
        for function in (torn_pictures, torn_readings):
            for number in (-1, 1000, 10 ** 30, -10 ** 30, *NO_INTEGERS):
                self.assertIs(type(called(function, DISPLAY, CAMERA, number, 0)), InvalidNumber, repr(number))
            for begin in NO_INTEGERS:
                self.assertIs(type(called(function, DISPLAY, CAMERA, 199, begin)), InvalidTick, repr(begin))
            for places in range(1, 9):
                display = (places, 1, 1, "now")
                self.assertEqual(called(function, display, (1, 1), 10 ** places - 1, 0), [])
                self.assertIs(type(called(function, display, (1, 1), 10 ** places, 0)), InvalidNumber)
        for begin in NO_INTEGERS:
            self.assertIs(type(called(press_span, DISPLAY, CAMERA, begin)), InvalidTick, repr(begin))


class Thresholds(unittest.TestCase):
    def expected(self, display, camera, place, begin):
        """Found by counting tick by tick."""
        exposure, need = camera
        ticks = lit_until(display, place, begin, begin + exposure)
        if ticks[-1] < need:
            return None
        first = [past for past in range(exposure + 1) if ticks[past] >= need][0]
        last = [past for past in range(exposure + 1) if ticks[-1] - ticks[past] >= need][-1]
        return (begin + first, begin + last)

    def test_against_counting(self):
        choice = random.Random(21)
        for display in small_displays(8, 3):
            turn = display[0] * display[1]
            for camera in cameras_around(display):
                for begin in {0, choice.randrange(-turn, turn), -10 ** 28 * turn + choice.randrange(turn)}:
                    for place in range(display[0]):
                        expected = self.expected(display, camera, place, begin)
                        found = place_thresholds(display, camera, place, begin)
                        self.assertEqual(found, expected, (display, camera, place, begin))

    def test_needs_from_1_to_beyond_what_is_lit(self):
        for display, exposure in [((1, 10, 7, "now"), 25), ((2, 6, 6, "round"), 31), ((3, 10, 8, "now"), 30)]:
            for place in range(display[0]):
                for begin in range(-12, 13, 3):
                    most = lit_until(display, place, begin, begin + exposure)[-1]
                    for need in range(1, most + 3):
                        found = called(place_thresholds, display, (exposure, need), place, begin)
                        self.assertEqual(found, self.expected(display, (exposure, need), place, begin))
                        self.assertIs(found is None, need > most)

    def test_at_the_ends_of_the_picture(self):
        # All lit ticks are needed, and the last one of the exposure and the first one are among them.
        self.assertEqual(called(place_thresholds, (1, 5, 5, "now"), (7, 7), 0, -3), (4, -3))
        self.assertEqual(called(place_thresholds, (1, 5, 5, "now"), (7, 1), 0, -3), (-2, 3))
        self.assertIsNone(called(place_thresholds, (1, 5, 5, "now"), (7, 8), 0, -3))
        self.assertEqual(called(place_thresholds, DISPLAY, (30, 8), 0, 0), (8, 0))
        self.assertEqual(called(place_thresholds, DISPLAY, (30, 8), 0, 4), (34, 4))

    def test_great_numbers(self):
        seen = 0
        for display, (exposure, need), _, begin in great_pictures(22, 300):
            for place in range(display[0]):
                found = called(place_thresholds, display, (exposure, need), place, begin)
                end = begin + exposure
                self.assertIs(found is None, lit_ticks(display, place, begin, end) < need)
                if found is None:
                    continue
                seen += 1
                first, last = found
                self.assertLessEqual(first, end)
                self.assertGreaterEqual(last, begin)
                self.assertEqual([lit_ticks(display, place, begin, first - past) for past in (0, 1)], [need, need - 1])
                self.assertEqual([lit_ticks(display, place, last + past, end) for past in (0, 1)], [need, need - 1])
        self.assertGreater(seen, 200)

    def test_the_driver_changes_nothing(self):
        for place in range(3):
            for begin in range(-30, 30):
                found = [place_thresholds((3, 10, 8, driver), (40, 5), place, begin) for driver in ("now", "round")]
                self.assertEqual(found[0], found[1])

    def test_wrong_places_and_begins(self):
        for place in (-1, 3, 8, 10 ** 30, *NO_INTEGERS):
            self.assertIs(type(called(place_thresholds, DISPLAY, CAMERA, place, 0)), InvalidPlace, repr(place))
        for begin in NO_INTEGERS:
            self.assertIs(type(called(place_thresholds, DISPLAY, CAMERA, 2, begin)), InvalidTick, repr(begin))


class Answers(unittest.TestCase):
    def test_each_list_is_new(self):
        answers = [torn_pictures(DISPLAY, CAMERA, 199, 0) for _ in range(3)] + [torn_readings(DISPLAY, CAMERA, 199, 0) for _ in range(3)]
        found = [some for answer in answers for some in lists_in(answer)]
        self.assertEqual(len(found), 3 * (1 + 7) + 3)
        self.assertEqual(len({id(some) for some in found}), len(found))

    def test_equal_pictures_behind_one_another_are_no_one_object(self):
        # A picture of a later row can be equal to that of an earlier one.
        for display, camera, number, begin in great_pictures(23, 60):
            rows = torn_pictures(display, camera, number, begin)
            self.assertEqual(len({id(picture) for _, _, picture in rows}), len(rows))

    def test_changed_answers_change_no_later_ones(self):
        display = (1, 10, 8, "now")
        expected = [(1, 3, ["bcfg"]), (4, 4, ["abcdfg"]), (5, 9, ["abcdg"])]
        answer = torn_pictures(display, (10, 4), 3, 0)
        answer[0][2][0] = "changed"
        answer[1][2].clear()
        answer.pop()
        self.assertEqual(torn_pictures(display, (10, 4), 3, 0), expected)
        torn_readings(display, (10, 4), 3, 0).clear()
        self.assertEqual(torn_readings(display, (10, 4), 3, 0), [(1, 3, 4), (4, 4, 9), (5, 9, 3)])

    def test_steady_pictures_beside_the_span(self):
        # The presses ahead of the span are shown in the whole picture, those behind it not at all.
        for driver in ("now", "round"):
            for begin in range(-35, 35):
                display = (3, 10, 8, driver)
                span = press_span(display, CAMERA, begin)
                if span is not None:
                    readings = [reading_of(display, picture_of(display, CAMERA, (199, [press]), begin)) for press in (span[0] - 1, span[1] + 1)]
                    self.assertEqual(readings, [200, 199])

    def test_answered_at_once(self):
        with AtOnce():
            for display, camera, number, begin in great_pictures(24, 400):
                torn_pictures(display, camera, number, begin)
                torn_readings(display, camera, number, begin)

    def test_patterns_of_the_examples(self):
        picture = torn_pictures(DISPLAY, CAMERA, 3, 0)[1]
        self.assertEqual(picture, (24, 24, [PATTERNS[0], PATTERNS[0], PATTERNS[9]]))

    def test_arguments_by_name(self):
        self.assertEqual(press_span(begin=0, camera=CAMERA, display=DISPLAY), (1, 29))
        display = (1, 10, 8, "now")
        self.assertEqual(torn_pictures(begin=0, number=3, camera=(10, 5), display=display)[0], (1, 3, ["bcfg"]))
        self.assertEqual(torn_readings(begin=0, number=3, camera=CAMERA, display=DISPLAY)[1], (24, 24, 9))
        self.assertEqual(place_thresholds(begin=0, place=2, camera=CAMERA, display=DISPLAY), (24, 24))

    def test_defined_here(self):
        for name in ["press_span", "torn_pictures", "torn_readings", "place_thresholds"]:
            self.assertEqual(getattr(torn, name).__module__, "litdigits.torn")


if __name__ == "__main__":
    unittest.main()
