"""Point 18."""

import itertools
import math
import random
import unittest

from litdigits import drift
from litdigits.clear import clear_begins, seen_places
from litdigits.drift import clear_firsts, count_dark, first_clear, first_dark
from litdigits.errors import InvalidNumber, InvalidTick
from tests.helper import (
    NO_INTEGERS, AtOnce, called, cameras_around, clear_by_turns, lists_in, small_displays, stretches_of,
)

DISPLAY, CAMERA = (3, 10, 8, "now"), (29, 8)
SMALL = [display for display in small_displays(8, 3) if display[3] == "now"][::3] + [DISPLAY, (2, 12, 9, "round"), (1, 15, 4, "now")]


def clear_row(display, camera):
    """For each begin from 0 to round - 1 whether all places are seen, counted tick by tick."""
    return [len(places) == display[0] for places in clear_by_turns(display, camera)]


def mixed_cameras(display):
    """Cameras with which some begins are clear and some are not."""
    return [camera for camera in cameras_around(display) if len(set(clear_row(display, camera))) == 2]


def periods_about(turn):
    return sorted({1, 2, 3, max(1, turn // 2), max(1, turn - 1), turn, turn + 1, 2 * turn, 3 * turn + 2, 10 ** 29, 10 ** 29 * turn + 1})


def great_rows(seed):
    """Displays with great slots, cameras that see all places at some of the begins, firsts and periods."""
    choice = random.Random(seed)
    found = 0
    while found < 60:
        places = choice.choice([1, 2, 3, 8])
        divisor = choice.choice([1, 12, 10 ** 13 + 37, 10 ** 26 + 7])
        slot = divisor * choice.randrange(1, 10 ** 28 // divisor)
        lit = choice.choice([slot, slot - slot // choice.randrange(2, 30), choice.randrange(1, slot + 1)])
        display = (places, slot, lit, choice.choice(["now", "round"]))
        turn = places * slot
        exposure = choice.choice([turn - 1, turn - slot // 50, 2 * turn + slot // 3, choice.randrange(1, 10 ** 29)])
        whole, rest = divmod(exposure, turn)
        need = whole * lit + max(0, rest + lit - turn) + choice.choice([1, 2, slot // 100 + 1])
        if not clear_begins(display, (exposure, need)) or clear_begins(display, (exposure, need)) == [(0, turn - 1)]:
            continue
        found += 1
        period = choice.choice([
            choice.randrange(1, 10 ** 29), divisor * choice.randrange(1, 10 ** 29 // divisor), turn, turn + 1, turn - 1, 1, 2,
            turn // 2 + 1, slot, 7 * turn + divisor,
        ])
        yield display, (exposure, need), choice.randrange(-10 ** 29, 10 ** 29), period


class FirstAndCount(unittest.TestCase):
    def compare(self, display, camera, first, period, clears):
        """Compares with going from picture to picture, over a whole turn and some pictures more."""
        turn = len(clears)
        row = [clears[(first + index * period) % turn] for index in range(turn // math.gcd(turn, period) + 3)]
        message = (display, camera, first, period)
        self.assertEqual(first_dark(display, camera, first, period), row.index(False) if False in row else None, message)
        self.assertEqual(first_clear(display, camera, first, period), row.index(True) if True in row else None, message)
        dark = [0, *itertools.accumulate(not clear for clear in row)]
        for many, expected in enumerate(dark):
            self.assertEqual(count_dark(display, camera, first, period, many), expected, (message, many))

    def test_picture_by_picture(self):
        choice = random.Random(18)
        for display in SMALL:
            turn = display[0] * display[1]
            cameras = mixed_cameras(display)
            for camera in choice.sample(cameras, min(3, len(cameras))):
                clears = clear_row(display, camera)
                for period in periods_about(turn):
                    for first in {0, choice.randrange(turn), -choice.randrange(1, 3 * turn), 10 ** 28 + choice.randrange(turn)}:
                        self.compare(display, camera, first, period, clears)

    def test_all_firsts_and_periods(self):
        for display, camera in [((2, 4, 3, "now"), (7, 3)), ((3, 3, 2, "round"), (8, 2)), ((1, 12, 7, "now"), (11, 7))]:
            clears = clear_row(display, camera)
            self.assertEqual(set(clears), {True, False})
            turn = len(clears)
            for period in range(1, 2 * turn + 2):
                for first in range(-turn, turn):
                    self.compare(display, camera, first, period, clears)

    def test_cameras_that_are_always_clear_or_never(self):
        for period in (1, 7, 29, 30, 31, 10 ** 29):
            for first in (-10 ** 29, -1, 0, 17):
                self.assertIsNone(called(first_dark, DISPLAY, (30, 8), first, period))
                self.assertEqual(called(first_clear, DISPLAY, (30, 8), first, period), 0)
                self.assertIsNone(called(first_clear, DISPLAY, (20, 8), first, period))
                self.assertEqual(called(first_dark, DISPLAY, (20, 8), first, period), 0)
                for many in (0, 1, 29, 10 ** 29):
                    self.assertEqual(called(count_dark, DISPLAY, (30, 8), first, period, many), 0)
                    self.assertEqual(called(count_dark, DISPLAY, (20, 8), first, period, many), many)

    def test_none_exactly_if_there_is_none(self):
        # With a period of the round or of a divisor the pictures do not come to all begins.
        for display in SMALL:
            turn = display[0] * display[1]
            for camera in mixed_cameras(display)[:4]:
                clears = clear_row(display, camera)
                for period in [some for some in range(1, turn + 1) if turn % some == 0] + [5 * turn]:
                    for first in range(turn):
                        row = {clears[(first + index * period) % turn] for index in range(turn)}
                        self.assertIs(first_dark(display, camera, first, period) is None, False not in row)
                        self.assertIs(first_clear(display, camera, first, period) is None, True not in row)

    def test_great_counts(self):
        for display in SMALL:
            turn = display[0] * display[1]
            for camera in mixed_cameras(display)[:3]:
                clears = clear_row(display, camera)
                for period in (1, 2, turn - 1, turn + 1, 10 ** 28 + 1):
                    if period < 1:
                        continue
                    row = [clears[(3 + index * period) % turn] for index in range(turn)]
                    for more in (0, 1, turn // 2, turn - 1):
                        many = 10 ** 27 * turn + more
                        expected = 10 ** 27 * row.count(False) + row[:more].count(False)
                        self.assertEqual(called(count_dark, display, camera, 3, period, many), expected)


class GreatNumbers(unittest.TestCase):
    def test_first_and_count_agree_and_the_picture_is_as_said(self):
        for display, camera, first, period in great_rows(1):
            dark, clear = called(first_dark, display, camera, first, period), called(first_clear, display, camera, first, period)
            pictures = display[0] * display[1] // math.gcd(period, display[0] * display[1])
            every = called(count_dark, display, camera, first, period, pictures)
            self.assertEqual(count_dark(display, camera, first, period, 10 ** 3 * pictures), 10 ** 3 * every)
            self.check_first(display, camera, first, period, dark, every == 0, False)
            self.check_first(display, camera, first, period, clear, every == pictures, True)

    def check_first(self, display, camera, first, period, index, none, clear):
        self.assertIs(index is None, none)
        if index is None:
            return
        seen = seen_places(display, camera, first + index * period)
        self.assertIs(len(seen) == display[0], clear)
        # All of the pictures ahead of it are of the other kind.
        self.assertEqual(count_dark(display, camera, first, period, index), index if clear else 0)

    def test_enlarged_displays(self):
        # If all numbers are so many times as great, the lit ticks are as many times as many.
        choice = random.Random(29)
        for display in SMALL:
            places, slot, lit, driver = display
            turn = places * slot
            cameras = mixed_cameras(display)
            for camera in choice.sample(cameras, min(3, len(cameras))):
                many = choice.choice([10 ** 25 + 7, 10 ** 26 - 1])
                large, exposed = (places, slot * many, lit * many, driver), (camera[0] * many, camera[1] * many)
                for period in (1, turn - 1, turn, turn + 1, choice.randrange(1, 100)):
                    if period < 1:
                        continue
                    first = choice.randrange(-100, 100)
                    for function in (first_dark, first_clear):
                        small = function(display, camera, first, period)
                        self.assertEqual(function(large, exposed, first * many, period * many), small)
                    for number in (1, turn // 2, turn, 10 ** 29):
                        small = count_dark(display, camera, first, period, number)
                        self.assertEqual(count_dark(large, exposed, first * many, period * many, number), small)

    def test_all_firsts_of_a_great_common_divisor(self):
        choice = random.Random(3)
        stretched = 0
        for display, camera, _, period in great_rows(2):
            turn = display[0] * display[1]
            modulus, stretches = called(clear_firsts, display, camera, period)
            self.assertEqual(modulus, math.gcd(turn, period))
            bounds = [end for stretch in stretches for end in stretch]
            self.assertEqual(bounds, sorted(bounds))
            for (_, greatest), (least, _) in zip(stretches, stretches[1:]):
                self.assertGreater(least, greatest + 1)
            for end in [*bounds, 0, modulus - 1, choice.randrange(modulus)]:
                for rest in (end - 1, end, end + 1):
                    if 0 <= rest < modulus:
                        inside = any(least <= rest <= greatest for least, greatest in stretches)
                        first = rest + modulus * choice.randrange(-10 ** 29 // modulus, 10 ** 29 // modulus)
                        self.assertIs(first_dark(display, camera, first, period) is None, inside)
            stretched += len(stretches) > 0
        self.assertGreater(stretched, 10)

    def test_answered_at_once(self):
        with AtOnce():
            for display, camera, first, period in great_rows(4):
                for more in range(5):
                    first_dark(display, camera, first, period + more)
                    first_clear(display, camera, first, period + more)
                    count_dark(display, camera, first, period + more, 10 ** 29 - more)
                    clear_firsts(display, camera, period + more)

    def test_a_long_way_to_a_single_picture(self):
        slot = 10 ** 28
        display = (1, slot, slot - 1, "now")
        # The place is not lit at slot - 1, so a picture of a single tick is dark there alone.
        self.assertEqual(clear_begins(display, (1, 1)), [(0, slot - 2)])
        self.assertEqual(first_dark(display, (1, 1), 0, 1), slot - 1)
        self.assertEqual(first_dark(display, (1, 1), 0, slot - 1), 1)
        self.assertEqual(first_dark(display, (1, 1), 1, slot + 1), slot - 2)
        self.assertEqual([count_dark(display, (1, 1), 0, 1, many) for many in (slot - 1, slot, 10 * slot)], [0, 1, 10])
        # A picture of slot - 1 ticks has all lit ones only if it is begun with the first of them.
        camera = (slot - 1, slot - 1)
        self.assertEqual(clear_begins(display, camera), [(0, 0)])
        self.assertEqual(first_clear(display, camera, 1, 1), slot - 1)
        self.assertEqual(first_clear(display, camera, 1, slot - 1), 1)
        self.assertEqual(first_clear(display, camera, 2, slot + 1), slot - 2)
        counts = [count_dark(display, camera, 1, 1, many) for many in (slot - 1, slot, 10 * slot)]
        self.assertEqual(counts, [slot - 1, slot - 1, 10 * (slot - 1)])


class ClearFirsts(unittest.TestCase):
    def test_against_all_rests(self):
        for display in SMALL:
            turn = display[0] * display[1]
            for camera in cameras_around(display)[::2]:
                clears = clear_row(display, camera)
                for period in {1, 2, 3, turn // 2 + 1, turn - 1, turn, turn + 1, 6 * turn, turn * 10 ** 28 + turn // 2, 10 ** 29}:
                    if period < 1:
                        continue
                    modulus = math.gcd(period, turn)
                    good = [rest for rest in range(modulus) if all(clears[rest::modulus])]
                    expected = (modulus, stretches_of(good))
                    self.assertEqual(clear_firsts(display, camera, period), expected, (display, camera, period))

    def test_period_of_the_round(self):
        for camera in [(29, 8), (30, 8), (20, 8), (28, 7)]:
            for period in (30, 60, 30 * 10 ** 28):
                self.assertEqual(called(clear_firsts, DISPLAY, camera, period), (30, clear_begins(DISPLAY, camera)))

    def test_no_common_divisor(self):
        for period in (1, 7, 31, 3 * 10 ** 28 + 1, 3 * 10 ** 28 - 1):
            self.assertEqual(math.gcd(period, 30), 1)
            self.assertEqual(called(clear_firsts, DISPLAY, (29, 8), period), (1, []))
            self.assertEqual(called(clear_firsts, DISPLAY, (30, 8), period), (1, [(0, 0)]))

    def test_dark_begins_that_go_past_a_multiple_of_the_modulus(self):
        # The begins 1 to 8, 11 to 18 and 21 to 28 are dark: modulo 15 and 6 that leaves nothing, modulo 10 it does.
        self.assertEqual(called(clear_firsts, DISPLAY, (29, 8), 15), (15, []))
        self.assertEqual(called(clear_firsts, DISPLAY, (29, 8), 6), (6, []))
        self.assertEqual(called(clear_firsts, DISPLAY, (29, 8), 20), (10, [(0, 0), (9, 9)]))
        # Dark from 1 on, a few begins: all modulo 4 if there are four of them.
        for exposure, modulus, dark, stretches in [
            (11, 4, (1, 1), [(0, 0), (2, 3)]), (9, 4, (1, 3), [(0, 0)]), (8, 4, (1, 4), []), (9, 3, (1, 3), []),
            (8, 6, (1, 4), [(0, 0), (5, 5)]), (3, 12, (1, 9), [(0, 0), (10, 11)]),
        ]:
            display, camera = (1, 12, 1, "now"), (exposure, 1)
            self.assertEqual(clear_begins(display, camera), [(0, 0), (dark[1] + 1, 11)])
            self.assertEqual(called(clear_firsts, display, camera, modulus), (modulus, stretches))
        # Dark at 4 and 5, which are 4 and 0 modulo 5.
        display, camera = (1, 15, 4, "now"), (10, 1)
        self.assertEqual(clear_begins(display, camera), [(0, 3), (6, 14)])
        self.assertEqual(called(clear_firsts, display, camera, 5), (5, [(1, 3)]))
        self.assertEqual(called(clear_firsts, display, (11, 1), 3), (3, [(0, 0), (2, 2)]))


class Arguments(unittest.TestCase):
    def test_wrong_firsts(self):
        for first in NO_INTEGERS:
            for function, more in [(first_dark, ()), (first_clear, ()), (count_dark, (5,))]:
                error = called(function, DISPLAY, CAMERA, first, 31, *more)
                self.assertIs(type(error), InvalidTick, repr(first))

    def test_wrong_periods_and_numbers(self):
        for value in (0, -1, -31, -10 ** 30, *NO_INTEGERS):
            for function, arguments in [(first_dark, (0, value)), (first_clear, (0, value)), (count_dark, (0, value, 5)), (clear_firsts, (value,))]:
                error = called(function, DISPLAY, CAMERA, *arguments)
                self.assertIs(type(error), InvalidNumber, repr(value))
        for many in (-1, -10 ** 30, *NO_INTEGERS):
            self.assertIs(type(called(count_dark, DISPLAY, CAMERA, 0, 31, many)), InvalidNumber, repr(many))
        self.assertEqual(called(count_dark, DISPLAY, CAMERA, 0, 31, 0), 0)

    def test_each_list_is_new(self):
        answers = [clear_firsts(DISPLAY, CAMERA, 10) for _ in range(3)]
        self.assertEqual(len({id(some) for answer in answers for some in lists_in(answer)}), 3)
        answers[0][1].clear()
        self.assertEqual(clear_firsts(DISPLAY, CAMERA, 10), (10, [(0, 0), (9, 9)]))
        self.assertEqual([type(item) for item in answers[1]], [int, list])

    def test_arguments_by_name(self):
        self.assertEqual(first_dark(period=31, first=0, camera=CAMERA, display=DISPLAY), 1)
        self.assertEqual(first_clear(period=31, first=1, camera=CAMERA, display=DISPLAY), 8)
        self.assertEqual(count_dark(many=30, period=31, first=0, camera=CAMERA, display=DISPLAY), 24)
        self.assertEqual(clear_firsts(period=10, camera=CAMERA, display=DISPLAY), (10, [(0, 0), (9, 9)]))

    def test_defined_here(self):
        for name in ["first_dark", "first_clear", "count_dark", "clear_firsts"]:
            self.assertEqual(getattr(drift, name).__module__, "litdigits.drift")


if __name__ == "__main__":
    unittest.main()
