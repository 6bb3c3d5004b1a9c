"""Points 21 and 22."""

import random
import time
import unittest

from litdigits import lies
from litdigits.errors import InvalidNumber, InvalidTick
from litdigits.lies import can_lie, is_truthful, kind_of, lie_paper, lies_at, lying_kinds, shows_lie
from litdigits.pictures import picture_of, reading_of
from litdigits.torn import torn_readings
from tests.helper import (
    NO_INTEGERS, PATTERNS, STRANGE, AtOnce, called, cameras_around, clear_by_turns, lists_in, lit_until, presses_around,
    shown_from, small_displays, torn_by_turns,
)

DISPLAY, CAMERA = (3, 10, 8, "now"), (30, 4)


def kind_by_text(display, number):
    text = str(number).zfill(display[0])
    ahead = text.rstrip("9")
    return (len(text) - len(ahead), int(ahead[-1]) if ahead else 9)


def all_kinds(display):
    """One number of each kind, by its kind."""
    places = display[0]
    found = {(nines, digit): digit * 10 ** nines + 10 ** nines - 1 for nines in range(places) for digit in range(9)}
    return {**found, (places, 9): 10 ** places - 1}


def lies_by_turns(display, camera, number):
    """All tuples (begin, press) of lies of a number, begins from 0 to round - 1, found by trying all presses."""
    after = (number + 1) % 10 ** display[0]
    return [
        (begin, press) for begin in range(display[0] * display[1]) for press in presses_around(display, camera, begin)
        if torn_by_turns(display, camera, number, begin, press) not in (None, number, after)
    ]


def some_cameras(display, many, seed):
    """Cameras with which all places are seen at some begins at least."""
    good = [camera for camera in cameras_around(display) if any(len(places) == display[0] for places in clear_by_turns(display, camera))]
    good = [camera for camera in good if 2 <= camera[0] <= 2 * display[0] * display[1] + 1]
    return random.Random(seed).sample(good, min(many, len(good)))


class Kinds(unittest.TestCase):
    def test_all_numbers(self):
        for places in (1, 2, 3, 4):
            display = (places, 10, 8, "now")
            for number in range(10 ** places):
                self.assertEqual(kind_of(display, number), kind_by_text(display, number), number)

    def test_numbers_of_many_digits(self):
        display = (8, 1, 1, "round")
        for number, kind in [
            (0, (0, 0)), (9, (1, 0)), (99999999, (8, 9)), (9999999, (7, 0)), (89999999, (7, 8)), (99999998, (0, 8)),
            (99999989, (1, 8)), (90000000, (0, 0)), (12345678, (0, 8)), (12999999, (6, 2)), (10 ** 7, (0, 0)),
        ]:
            self.assertEqual(called(kind_of, display, number), kind)

    def test_only_all_nines_have_the_digit_9(self):
        for places in range(1, 9):
            self.assertEqual(called(kind_of, (places, 2, 1, "now"), 10 ** places - 1), (places, 9))
            self.assertEqual(called(kind_of, (places, 2, 1, "now"), 10 ** (places - 1) - 1), (places - 1, 0))

    def test_wrong_numbers(self):
        for places in range(1, 9):
            for number in (-1, 10 ** places, 10 ** 30, -10 ** 30):
                self.assertIs(type(called(kind_of, (places, 2, 1, "now"), number)), InvalidNumber)
        for number in NO_INTEGERS:
            self.assertIs(type(called(kind_of, DISPLAY, number)), InvalidNumber, repr(number))


class LiesAt(unittest.TestCase):
    def test_against_torn_readings(self):
        choice = random.Random(21)
        found = 0
        for display in small_displays(3, 4):
            numbers = list(all_kinds(display).values())
            for camera in some_cameras(display, 4, 1):
                for begin in range(-3, display[0] * display[1], 2):
                    for number in choice.sample(numbers, min(6, len(numbers))):
                        shown = (None, number, (number + 1) % 10 ** display[0])
                        expected = [row for row in torn_readings(display, camera, number, begin) if row[2] not in shown]
                        self.assertEqual(lies_at(display, camera, number, begin), expected)
                        found += len(expected)
        self.assertGreater(found, 500)

    def test_press_by_press(self):
        for display in [(2, 5, 4, "now"), (2, 4, 4, "round"), (1, 6, 5, "now"), (3, 3, 3, "now")]:
            for camera in some_cameras(display, 6, 2):
                for number in all_kinds(display).values():
                    told = [press for press_row in lies_at(display, camera, number, 1) for press in range(press_row[0], press_row[1] + 1)]
                    expected = [
                        press for press in presses_around(display, camera, 1)
                        if torn_by_turns(display, camera, number, 1, press) not in (None, number, (number + 1) % 10 ** display[0])
                    ]
                    self.assertEqual(told, expected, (display, camera, number))

    def test_past_the_greatest_number(self):
        # 9 becomes 0: that is what follows it, and no lie, but 8 is one.
        self.assertEqual(called(lies_at, (1, 10, 10, "now"), (10, 5), 9, 0), [(5, 5, 8)])
        self.assertEqual(called(lies_at, (1, 10, 10, "now"), (10, 6), 9, 0), [])
        self.assertEqual(called(lies_at, (2, 10, 10, "now"), (20, 10), 99, 0), [(10, 10, 90)])
        self.assertEqual(called(lies_at, (1, 10, 10, "now"), (10, 5), 5, 0), [])
        self.assertEqual(called(lies_at, (1, 10, 10, "now"), (10, 5), 6, 0), [(5, 5, 8)])

    def test_great_numbers(self):
        display = (3, 10 * 10 ** 26, 8 * 10 ** 26, "now")
        rows = called(lies_at, display, (30 * 10 ** 26, 4 * 10 ** 26), 199, 0)
        self.assertEqual([row[2] for row in rows], [100, 180, 190, 198])
        self.assertEqual(rows[1][:2], (14 * 10 ** 26, 14 * 10 ** 26))

    def test_wrong_numbers_and_begins(self):
        for number in (-1, 1000, *NO_INTEGERS):
            self.assertIs(type(called(lies_at, DISPLAY, CAMERA, number, 0)), InvalidNumber, repr(number))
        for begin in NO_INTEGERS:
            self.assertIs(type(called(lies_at, DISPLAY, CAMERA, 199, begin)), InvalidTick, repr(begin))


class AllBeginsAndPresses(unittest.TestCase):
    def compare(self, display, camera, numbers):
        """Compares with all begins and presses; numbers has one number of each kind, perhaps several."""
        lying = {}
        for number in numbers:
            every = lies_by_turns(display, camera, number)
            lying[kind_by_text(display, number)] = every != []
            message = (display, camera, number)
            self.assertIs(can_lie(display, camera, number), every != [], message)
            paper = lie_paper(display, camera, number)
            if not every:
                self.assertIsNone(paper, message)
                continue
            self.assertIn(paper, every, message)
            self.assertIs(shows_lie(display, camera, number, paper), True)
            self.assertEqual(lie_paper(display, camera, number), paper)
        kinds = sorted(kind for kind, can in lying.items() if can)
        self.assertEqual(lying_kinds(display, camera), kinds, (display, camera))
        self.assertIs(is_truthful(display, camera), kinds == [], (display, camera))
        return len(kinds)

    def test_one_place(self):
        found = {True: 0, False: 0}
        for display in [(1, slot, lit, driver) for slot in (2, 3, 5, 6, 10) for lit in {1, slot // 2, slot - 1, slot} for driver in ("now", "round") if lit]:
            for camera in some_cameras(display, 6, 3):
                found[self.compare(display, camera, range(10)) > 0] += 1
        self.assertGreater(min(found.values()), 20)

    def test_two_places(self):
        for display in [(2, 3, 2, "now"), (2, 4, 4, "round"), (2, 5, 4, "now"), (2, 2, 2, "round"), (2, 1, 1, "now")]:
            numbers = [*all_kinds(display).values(), 50, 57, 48, 69, 0]
            for camera in some_cameras(display, 6, 4):
                self.compare(display, camera, numbers)

    def test_three_places(self):
        for display in [(3, 2, 2, "now"), (3, 3, 2, "round"), (3, 4, 3, "now")]:
            for camera in some_cameras(display, 3, 5):
                self.compare(display, camera, list(all_kinds(display).values()))

    def test_only_the_kind_decides(self):
        for display, camera in [((2, 6, 5, "now"), (12, 3)), ((3, 4, 4, "now"), (12, 2)), ((3, 4, 3, "round"), (13, 2))]:
            kinds = lying_kinds(display, camera)
            for number in range(10 ** display[0]):
                self.assertIs(can_lie(display, camera, number), kind_of(display, number) in kinds, number)

    def test_each_number_that_lies_has_a_paper(self):
        for display, camera in [((3, 5, 4, "now"), (15, 2)), ((3, 5, 4, "round"), (15, 2)), ((8, 2, 2, "now"), (16, 1))]:
            for kind, number in all_kinds(display).items():
                paper = called(lie_paper, display, camera, number)
                self.assertIs(paper is not None, kind in lying_kinds(display, camera))
                if paper is not None:
                    begin, press = paper
                    self.assertIn(begin, range(display[0] * display[1]))
                    reading = reading_of(display, picture_of(display, camera, (number, [press]), begin))
                    self.assertNotIn(reading, (None, number, (number + 1) % 10 ** display[0]))

    def test_cameras_that_never_see_all_places(self):
        for display in [(2, 5, 4, "now"), (3, 10, 8, "round"), (8, 50, 40, "now")]:
            places, slot, lit, _ = display
            # From the last lit tick of the first place on to the first one of the last place it takes one tick more.
            short = (places - 1) * slot - lit + 1
            for camera in [(1, 1), (short, 1), (10 ** 29, 10 ** 29), (places * slot, lit + 1)]:
                self.assertIs(called(is_truthful, display, camera), True)
                self.assertEqual(called(lying_kinds, display, camera), [])
                self.assertIs(called(can_lie, display, camera, 99), False)
                self.assertIsNone(called(lie_paper, display, camera, 99))
        # A single place is seen at once.
        self.assertIs(called(is_truthful, (1, 10, 10, "now"), (2, 1)), False)

    def test_kinds_ascend(self):
        for camera in [(30, 4), (30, 5), (400, 30)]:
            kinds = called(lying_kinds, DISPLAY, camera)
            self.assertEqual(kinds, sorted(kinds))
            self.assertEqual(len(kinds), len(set(kinds)))

    def test_great_exposures(self):
        # Many whole rounds and a rest of five ticks: the place is seen as in the rest, with a need that is less by as much.
        for driver in ("now", "round"):
            display = (2, 6, 5, driver)
            for rest, more in [(0, 0), (5, 2), (11, 4)]:
                camera = (12 * 10 ** 28 + rest, 5 * 10 ** 28 + more)
                for number in (3, 9, 6, 99):
                    paper = called(lie_paper, display, camera, number)
                    self.assertIs(can_lie(display, camera, number), paper is not None)
                    self.assertIs(paper is None or shows_lie(display, camera, number, paper), True)


def ways_by_turns(display, camera):
    """All begins of a round and presses of their spans for which all places are seen, counted tick by tick.

    A dict: for each tuple of (old is seen, new is seen) of all places the list of the tuples (begin, press).
    """
    exposure, need = camera
    places, slot, _, _ = display
    found = {}
    for begin in range(places * slot):
        counts = [lit_until(display, place, begin, begin + exposure) for place in range(places)]
        if min(count[-1] for count in counts) < need:
            continue
        for press in presses_around(display, camera, begin):
            past = shown_from(display, press) - begin
            states = tuple((count[past] >= need, count[-1] - count[past] >= need) for count in counts)
            found.setdefault(states, []).append((begin, press))
    return found


def reading_in(display, number, states):
    """The reading of a picture with these states, by the patterns of both digits of each place."""
    after = (number + 1) % 10 ** display[0]
    reading = 0
    for one, other, (old, new) in zip(str(number).zfill(display[0]), str(after).zfill(display[0]), states):
        before, behind = set(PATTERNS[int(one)]), set(PATTERNS[int(other)])
        # What both have is lit with either.
        seen = before & behind | (before if old else set()) | (behind if new else set())
        digits = [digit for digit, pattern in PATTERNS.items() if set(pattern) == seen]
        if not digits:
            return None
        reading = 10 * reading + digits[0]
    return reading


class LongRounds(unittest.TestCase):
    def lying(self, display, number, ways):
        """All tuples (begin, press) of lies of a number."""
        shown = (None, number, (number + 1) % 10 ** display[0])
        return [way for states, some in ways.items() if reading_in(display, number, states) not in shown for way in some]

    def compare(self, display, camera, numbers):
        ways = ways_by_turns(display, camera)
        kinds = []
        for kind, number in all_kinds(display).items():
            if self.lying(display, number, ways):
                kinds.append(kind)
        given = (display, camera)
        self.assertEqual(called(lying_kinds, *given), sorted(kinds), given)
        self.assertIs(called(is_truthful, *given), kinds == [], given)
        for number in numbers:
            every = self.lying(display, number, ways)
            self.assertIs(called(can_lie, *given, number), every != [], (*given, number))
            paper = called(lie_paper, *given, number)
            if every:
                self.assertIn(paper, every, (*given, number))
                self.assertIs(called(shows_lie, *given, number, paper), True)
            else:
                self.assertIsNone(paper, (*given, number))
        return kinds

    def test_liars(self):
        # What the table tells is what the patterns of the digits tell, with a 9 for the digits behind.
        states = {0: (False, False), 1: (True, False), 2: (False, True), 3: (True, True)}
        for union in range(4):
            for state in range(4):
                for digit in range(9):
                    if union == 0:
                        display, number, behind = (1, 1, 1, "now"), digit, ()
                    else:
                        display, number, behind = (2, 1, 1, "now"), 10 * digit + 9, (states[union], )
                    reading = reading_in(display, number, (states[state], *behind))
                    lies_so = reading not in (None, number, (number + 1) % 10 ** display[0])
                    self.assertIs(digit in lies.LIARS[union][state], lies_so, (union, state, digit))

    def test_drawn_displays(self):
        choice = random.Random(2122)
        told = {True: 0, False: 0}
        for _ in range(250):
            places, slot = choice.randrange(1, 4), choice.randrange(1, 8)
            lit = choice.choice([slot, choice.randrange(1, slot + 1)])
            display = (places, slot, lit, choice.choice(["now", "round"]))
            exposure = choice.choice([places * slot, choice.randrange(1, 3 * places * slot + 2)])
            most = exposure // (places * slot) * lit + 1
            camera = (exposure, choice.randrange(1, most + 1))
            numbers = [choice.randrange(10 ** places), 10 ** places - 1, choice.choice([3, 4, 6, 8, 9]), choice.choice([0, 5, 9])]
            told[bool(self.compare(display, camera, numbers))] += 1
        self.assertGreater(min(told.values()), 40)

    def test_rounds_with_few_lit_ticks(self):
        for display, camera in [
            ((2, 50, 2, "now"), (100, 1)), ((1, 100, 3, "now"), (100, 2)), ((1, 100, 4, "now"), (100, 2)), ((3, 40, 1, "now"), (121, 1)),
            ((3, 34, 2, "round"), (150, 1)), ((2, 60, 5, "round"), (300, 6)), ((2, 60, 5, "now"), (241, 5)), ((2, 60, 5, "now"), (240, 6)),
        ]:
            self.compare(display, camera, [3, 9, 0, 10 ** display[0] - 1, 5 if display[0] == 1 else 59])

    def test_exposures_of_several_rounds(self):
        # With about a half of the lit ticks as need, it matters where in its slot a place changes.
        for display, camera in [
            ((2, 7, 5, "now"), (58, 11)), ((3, 8, 4, "now"), (62, 6)), ((2, 9, 2, "now"), (110, 7)), ((3, 11, 6, "now"), (69, 7)),
            ((4, 7, 5, "now"), (75, 7)), ((4, 9, 3, "round"), (88, 4)), ((5, 3, 2, "now"), (124, 9)),
        ]:
            self.assertTrue(self.compare(display, camera, [3, 9, 39, 10 ** display[0] - 1, 59, 8]))
        choice = random.Random(221)
        for _ in range(60):
            places, slot = choice.randrange(2, 4), choice.randrange(2, 7)
            display = (places, slot, choice.randrange(1, slot + 1), choice.choice(["now", "now", "round"]))
            rounds, rest = choice.randrange(2, 6), choice.randrange(places * slot)
            camera = (rounds * places * slot + rest, max(1, rounds * display[2] // 2 + choice.randrange(-1, 3)))
            self.compare(display, camera, [choice.randrange(10 ** places), 10 ** places - 1])

    def test_eight_places(self):
        for camera, expected in [((400, 20), True), ((400, 21), False)]:
            display = (8, 50, 40, "now")
            self.assertIs(called(can_lie, display, camera, 6), expected)
            paper = called(lie_paper, display, camera, 6)
            if expected:
                self.assertIs(called(shows_lie, display, camera, 6, paper), True)
                self.assertIn(paper[0], range(400))
            else:
                self.assertIsNone(paper)
        # In the picture of a whole round a place is lit for lit ticks: a half of them is enough for both digits.
        for lit in (2, 4, 6, 8):
            for need, alone in [(lit // 2, [(0, 3), (0, 4), (0, 6)]), (lit // 2 + 1, [])]:
                kinds = called(lying_kinds, (8, 10, lit, "now"), (80, need))
                self.assertEqual([kind for kind in kinds if kind[0] == 0], alone)
                self.assertEqual([kind for kind in kinds if kind[0] > 0], [(nines, digit) for nines in range(1, 8) for digit in range(9)] + [(8, 9)])
                self.assertIs(called(is_truthful, (8, 10, lit, "now"), (80, need)), False)
        # The change is between the rounds, so that each place is lit in both of its digits.
        self.assertEqual(called(lying_kinds, (2, 200, 2, "round"), (400, 1)), self.compare((2, 200, 2, "round"), (400, 1), [9, 99, 6]))

    def test_eight_places_against_all_begins_and_presses(self):
        choice = random.Random(8)
        for display, camera in [
            ((8, 10, 2, "now"), (80, 1)), ((8, 10, 8, "now"), (80, 5)), ((8, 3, 3, "now"), (31, 2)), ((8, 4, 2, "round"), (70, 2)),
            ((8, 5, 4, "now"), (37, 2)), ((5, 6, 5, "now"), (33, 3)), ((6, 5, 5, "round"), (55, 4)),
        ]:
            numbers = [10 ** nines - 1 + 10 ** nines * choice.randrange(9) for nines in range(display[0])]
            self.compare(display, camera, [*numbers, 10 ** display[0] - 1])
        ways = ways_by_turns((8, 50, 40, "now"), (400, 21))
        self.assertEqual(self.lying((8, 50, 40, "now"), 6, ways), [])

    def test_quicker_than_going_through_all_begins(self):
        display, camera = (8, 50, 40, "now"), (400, 21)
        through = self.least_time(lambda: [lies_at(display, camera, 6, begin) for begin in range(400)])
        for answer in [
            lambda: can_lie(display, camera, 6), lambda: lie_paper(display, camera, 6), lambda: lying_kinds(display, camera),
            lambda: is_truthful(display, camera),
        ]:
            self.assertLess(4 * self.least_time(answer), through)

    def least_time(self, answer):
        times = []
        for _ in range(5):
            begin = time.perf_counter()
            answer()
            times.append(time.perf_counter() - begin)
        return min(times)

    def test_rounds_of_any_length(self):
        choice = random.Random(400)
        for _ in range(40):
            slot = choice.randrange(10 ** 27, 10 ** 28)
            display = (choice.randrange(1, 9), slot, choice.randrange(slot // 2, slot + 1), choice.choice(["now", "round"]))
            camera = (display[0] * slot * choice.randrange(1, 3), choice.randrange(1, display[2]))
            with AtOnce():
                kinds = called(lying_kinds, display, camera)
                for kind, number in all_kinds(display).items():
                    paper = called(lie_paper, display, camera, number)
                    self.assertIs(called(can_lie, display, camera, number), kind in kinds)
                    self.assertIs(paper is not None, kind in kinds)
                    if paper is not None:
                        self.assertIn(paper[0], range(display[0] * slot))
                        self.assertIs(shows_lie(display, camera, number, paper), True)


class ShowsLie(unittest.TestCase):
    def test_against_all_begins_and_presses(self):
        for display in [(2, 4, 3, "now"), (2, 3, 3, "round"), (1, 8, 7, "now")]:
            turn = display[0] * display[1]
            for camera in some_cameras(display, 3, 6):
                for number in (3, 6, 9, 10 ** display[0] - 1):
                    every = lies_by_turns(display, camera, number)
                    for begin in range(turn):
                        for press in range(begin - turn - 2, begin + camera[0] + 2):
                            self.assertIs(shows_lie(display, camera, number, (begin, press)), (begin, press) in every)

    def test_begins_beyond_the_round(self):
        for many in (-10 ** 28, -3, -1, 0, 1, 2, 10 ** 28):
            for begin, press, expected in [(0, 10, True), (0, 3, False), (0, 14, True), (0, 24, True), (0, 25, False), (0, 0, False)]:
                value = (begin + 30 * many, press + 30 * many)
                self.assertIs(called(shows_lie, DISPLAY, CAMERA, 199, value), expected)

    def test_presses_far_away(self):
        for press in (-10 ** 29, -1000, -1, 0, 30, 31, 1000, 10 ** 29):
            self.assertIs(called(shows_lie, DISPLAY, CAMERA, 199, (0, press)), False)
            self.assertIs(called(shows_lie, (3, 10, 8, "round"), CAMERA, 199, (0, press)), False)

    def test_values_of_all_kinds(self):
        self.assertIs(shows_lie(DISPLAY, CAMERA, 199, (0, 10)), True)
        for value in [
            [0, 10], [(0, 10)], ((0, 10),), (), (0,), (0, 10, 0), (0, 10, None), (False, 10), (0.0, 10), (0, 10.0), ("0", 10),
            (0, "10"), (None, 10), (0, None), (0, [10]), ([0], 10), "0 10", {0: 10}, {0: 0, 1: 10}, 0, 10, "", [],
            *STRANGE, *[(some, 10) for some in STRANGE], *[(0, some) for some in STRANGE],
        ]:
            self.assertIs(called(shows_lie, DISPLAY, CAMERA, 199, value), False, repr(value))
        # True in place of 1: the same press as a number is a lie.
        display, camera = (1, 2, 2, "now"), (2, 1)
        self.assertIs(called(shows_lie, display, camera, 3, (0, 1)), True)
        self.assertIs(called(shows_lie, display, camera, 3, (0, True)), False)
        self.assertIs(called(shows_lie, display, camera, 3, (1, 2)), True)
        self.assertIs(called(shows_lie, display, camera, 3, (True, 2)), False)

    def test_great_displays(self):
        display, camera = (3, 10 ** 27, 8 * 10 ** 26, "now"), (3 * 10 ** 27, 4 * 10 ** 26)
        for press, expected in [
            (4 * 10 ** 26 - 1, False), (4 * 10 ** 26, False), (4 * 10 ** 26 + 1, True), (14 * 10 ** 26, True),
            (24 * 10 ** 26, True), (24 * 10 ** 26 + 1, False),
        ]:
            self.assertIs(called(shows_lie, display, camera, 199, (0, press)), expected, press)


class Answers(unittest.TestCase):
    def test_wrong_numbers(self):
        for number in (-1, 1000, 10 ** 30, -10 ** 30, *NO_INTEGERS):
            self.assertIs(type(called(can_lie, DISPLAY, CAMERA, number)), InvalidNumber, repr(number))
            self.assertIs(type(called(lie_paper, DISPLAY, CAMERA, number)), InvalidNumber, repr(number))
            for value in ((0, 10), None, (0,)):
                self.assertIs(type(called(shows_lie, DISPLAY, CAMERA, number, value)), InvalidNumber, repr(number))

    def test_each_list_is_new(self):
        for function, *values in [(lies_at, 199, 0), (lying_kinds,)]:
            answers = [function(DISPLAY, CAMERA, *values) for _ in range(3)]
            self.assertEqual(len({id(some) for answer in answers for some in lists_in(answer)}), 3)
            earlier = list(answers[0])
            answers[0].clear()
            answers[1].append("changed")
            self.assertEqual(function(DISPLAY, CAMERA, *values), earlier)

    def test_rounds_of_400_ticks(self):
        for display in [(8, 50, 40, "now"), (8, 50, 50, "round"), (8, 50, 25, "now"), (5, 80, 80, "now"), (1, 400, 333, "round")]:
            for camera in [(400, display[2] // 2), (400, display[2] // 2 + 1), (1234, 2 * display[2]), (10 ** 29, 10 ** 26)]:
                with AtOnce(5):
                    kinds = lying_kinds(display, camera)
                    self.assertIs(is_truthful(display, camera), kinds == [])
                    for kind, number in list(all_kinds(display).items())[::9]:
                        self.assertIs(can_lie(display, camera, number), kind in kinds)
                        paper = lie_paper(display, camera, number)
                        self.assertIs(paper is None or shows_lie(display, camera, number, paper), True)

    def test_arguments_by_name(self):
        self.assertEqual(kind_of(number=129, display=DISPLAY), (1, 2))
        self.assertEqual(lies_at(begin=0, number=3, camera=CAMERA, display=DISPLAY), [(24, 24, 9)])
        self.assertIs(can_lie(number=3, camera=CAMERA, display=DISPLAY), True)
        self.assertIsNone(lie_paper(number=3, camera=(30, 5), display=DISPLAY))
        self.assertIs(shows_lie(value=(0, 10), number=199, camera=CAMERA, display=DISPLAY), True)
        self.assertEqual(len(lying_kinds(camera=(30, 5), display=DISPLAY)), 19)
        self.assertIs(is_truthful(camera=CAMERA, display=DISPLAY), False)

    def test_defined_here(self):
        for name in ["kind_of", "lies_at", "can_lie", "lie_paper", "shows_lie", "lying_kinds", "is_truthful"]:
            self.assertEqual(getattr(lies, name).__module__, "litdigits.lies")


if __name__ == "__main__":
    unittest.main()
