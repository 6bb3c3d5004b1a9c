"""Points 7, 8 and 14."""

import random
import time
import unittest

from litdigits import pictures
from litdigits.errors import InvalidHistory
from litdigits.integers import is_integer
from litdigits.pictures import count_at, film_of, is_history, picture_of, shown_at
from tests.helper import NO_INTEGERS, AtOnce, called, count_by_turns, shown_by_turns, small_displays

DISPLAY = (3, 10, 8, "now")
MANY = list(range(-600, 600))

GOOD = [
    (0, []), (999, []), (0, [0]), (199, [9]), (3, [-5, -4, 0, 1, 90]), (1, MANY), (5, [10 ** 30 - 1]),
    (5, [-10 ** 30 + 1, 10 ** 30 - 1]),
]
NO_NUMBERS = [-1, 1000, 1001, 10 ** 30, -10 ** 30, *NO_INTEGERS]
NO_PRESSES = [
    [5, 5], [5, 4], [1, 2, 2], [1, 3, 2], [2, 1, 3], [10 ** 29, 10 ** 29], [0, -1], list(range(1201)),
    list(range(1500)), [True], [False], [0, True], [None], ["5"], [5.0], [5, 6.0], [5, None], [5, "6"], [[5]], [(5,)],
    [5, []], (), (5,), (5, 6), {5: 6}, "", "5", "56", 5, 0, *[value for value in NO_INTEGERS if not isinstance(value, list)],
]
NO_TUPLES_OF_TWO = [
    [199, [9]], (), (199,), (199, [9], []), (199, [9], None), ([199, [9]],), ((199, [9]),), "17: 5", "17", [], [199],
    {0: 199, 1: [9]}, 199, 0, *NO_INTEGERS,
]


class Histories(unittest.TestCase):
    def refused(self, value, index, display=DISPLAY):
        self.assertIs(called(is_history, display, value), False, repr(value)[:80])
        calls = [
            (count_at, display, value, 0), (shown_at, display, value, 0), (picture_of, display, (30, 4), value, 0),
            (film_of, display, (30, 4), value, 0, 1, 1),
        ]
        for function, *arguments in calls:
            error = called(function, *arguments)
            self.assertIs(type(error), InvalidHistory, repr(value)[:80])
            self.assertEqual(error.index, index, repr(value)[:80])
            self.assertIs(type(error.index), type(index))

    def test_histories(self):
        for driver in ("now", "round"):
            for history in GOOD:
                self.assertIs(called(is_history, (3, 10, 8, driver), history), True, repr(history)[:80])

    def test_both_ends_of_the_numbers(self):
        for places in range(1, 9):
            display = (places, 2, 1, "round")
            most = int("9" * places)
            for number in (0, 1, most - 1, most):
                self.assertIs(is_history(display, (number, [])), True)
                self.assertEqual(count_at(display, (number, []), 5), number)
            for number in (-1, most + 1, most + 2, -most, 10 ** 30):
                self.refused((number, []), 0, display)

    def test_wrong_numbers(self):
        for number in NO_NUMBERS:
            self.refused((number, [9]), 0)

    def test_wrong_presses(self):
        for presses in NO_PRESSES:
            self.refused((199, presses), 1)

    def test_number_and_presses_wrong(self):
        for number in (-1, 1000, None, True):
            for presses in NO_PRESSES:
                self.refused((number, presses), 0)

    def test_no_tuple_of_two_items(self):
        for value in NO_TUPLES_OF_TWO:
            self.refused(value, None)

    def test_1200_presses_and_1201(self):
        self.assertEqual(len(MANY), 1200)
        self.assertIs(is_history(DISPLAY, (0, MANY)), True)
        self.assertEqual(count_at(DISPLAY, (0, MANY), 600), 200)
        self.refused((0, [*MANY, 600]), 1)
        self.refused((0, [*MANY, 599]), 1)
        self.refused((0, [*MANY[:-1], 598]), 1)
        self.refused((0, [*MANY[:-1], None]), 1)
        self.refused((0, [0] * 1200), 1)


class LongHistories(unittest.TestCase):
    """Histories with 1,200 presses: each of them is looked at, and that takes not too long."""

    def judged(self, presses, good, driver):
        display = (3, 10, 8, driver)
        before = list(presses)
        self.assertIs(is_history(display, (5, presses)), good)
        self.assertEqual(presses, before)
        for function in (count_at, shown_at):
            for tick in (-10 ** 29, 0, 600, 10 ** 29):
                answer = called(function, display, (5, presses), tick)
                # Lists are compared with their kinds: True is not to become 1.
                self.assertEqual([(type(press), press) for press in presses], [(type(press), press) for press in before])
                if good:
                    at = tick - tick % 30 if function is shown_at and driver == "round" else tick
                    self.assertEqual(answer, count_by_turns(display, (5, presses), at))
                else:
                    self.assertIs(type(answer), InvalidHistory)
                    self.assertEqual(answer.index, 1)

    def test_only_the_last_press_is_wrong(self):
        ahead = list(range(-1199, 0))
        huge = [10 ** 28 + many * 10 ** 24 for many in range(1199)]
        for driver in ("now", "round"):
            for presses in (ahead, huge):
                self.judged([*presses, presses[-1] + 1], True, driver)
                self.judged([*presses, presses[-1]], False, driver)
                self.judged([*presses, presses[-1] - 1], False, driver)
                self.judged([*presses, -10 ** 29], False, driver)
                for wrong in (None, "5", 5.0, float(10 ** 29), [10 ** 29], (10 ** 29,), True, False):
                    self.judged([*presses, wrong], False, driver)

    def test_only_one_press_is_wrong(self):
        good = list(range(0, 2400, 2))
        for index in (0, 1, 2, 599, 600, 1198, 1199):
            for wrong in (None, "5", 2.0 * index, True, False, 2 * index - 2, 2 * index + 2):
                presses = [*good[:index], wrong, *good[index + 1:]]
                # The first press can be less, the last one greater.
                right = type(wrong) is int and (index == 0 and wrong < 0 or index == 1199 and wrong > 2398)
                self.judged(presses, right, "now")

    def test_true_and_false_at_the_places_of_1_and_0(self):
        for many in (0, 1, 2, 600, 1197):
            below, above = list(range(-many, 0)), list(range(2, 1200 - many))
            self.judged([*below, 0, 1, *above], True, "now")
            for wrong in ([0, True], [False, 1], [False, True], [True], [False], [False, True, True]):
                self.judged([*below, *wrong, *above], False, "round")
                self.judged([*below, *wrong], False, "now")
                self.judged([*wrong, *above], False, "now")

    def test_1200_are_taken_and_1201_are_refused(self):
        for first, step in [(0, 1), (-600, 1), (-10 ** 29, 10 ** 26), (10 ** 29, 1)]:
            presses = [first + step * many for many in range(1201)]
            for driver in ("now", "round"):
                self.judged(presses[:1200], True, driver)
                self.judged(presses[1:], True, driver)
                self.judged(presses, False, driver)
                self.judged([*presses[:1200], presses[1198]], False, driver)

    def test_at_each_press_and_beside_it(self):
        presses = [many * many for many in range(-600, 0)][::-1] + [10 ** 6 + 30 * many for many in range(600)]
        for driver in ("now", "round"):
            display = (4, 10, 8, driver)
            for tick in [press + past for press in presses[::40] for past in (-1, 0, 1)] + [-10 ** 29, 10 ** 29]:
                at = tick - tick % 40 if driver == "round" else tick
                self.assertEqual(shown_at(display, (9000, presses), tick), count_by_turns(display, (9000, presses), at))
                self.assertEqual(count_at(display, (9000, presses), tick), count_by_turns(display, (9000, presses), tick))

    def plain_count(self, display, history, tick):
        """The count, with each press asked by calls of its own whether it is a tick, and all of them counted."""
        number, presses = history
        self.assertTrue(isinstance(presses, list) and len(presses) <= 1200)
        self.assertTrue(all([is_integer(press) for press in presses]))
        self.assertTrue(all([one < other for one, other in zip(presses, presses[1:])]))
        return (number + len([press for press in presses if press <= tick])) % 10 ** display[0]

    def test_at_most_half_of_the_time_that_plain_counting_takes(self):
        presses = list(range(1200))
        ticks = [*range(0, 1200, 60), 599, 601, -1, 1200, 1201, 30, 31, -10 ** 29, 10 ** 29]
        self.assertEqual([count_at(DISPLAY, (5, presses), tick) for tick in ticks],
                         [self.plain_count(DISPLAY, (5, presses), tick) for tick in ticks])
        for function in (count_at, shown_at):
            least = {function: float("inf"), self.plain_count: float("inf")}
            # By turns, and the least time of each, so that it does not matter what else the machine does.
            for _ in range(25):
                for one in least:
                    begin = time.process_time()
                    for tick in ticks:
                        one(DISPLAY, (5, presses), tick)
                    least[one] = min(least[one], time.process_time() - begin)
            self.assertLess(2 * least[function], least[self.plain_count])


class Counts(unittest.TestCase):
    def test_counts_against_going_through_the_presses(self):
        history_of = {1: (8, [-7, -3, 0, 1, 2, 5, 9, 14]), 2: (97, [-12, -6, -5, 0, 4, 12, 13]), 3: (998, [-1, 0, 6, 7])}
        for display in small_displays(3, 3):
            history = history_of[display[0]]
            for tick in range(-20, 25):
                counted = called(count_at, display, history, tick)
                self.assertEqual(counted, count_by_turns(display, history, tick), (display, tick))
                shown = called(shown_at, display, history, tick)
                self.assertEqual(shown, shown_by_turns(display, history, tick), (display, tick))
                self.assertIs(type(counted), int)

    def test_random_histories(self):
        choice = random.Random(14)
        for display in small_displays(2, 4):
            for _ in range(10):
                presses = sorted(choice.sample(range(-30, 31), choice.randrange(20)))
                history = (choice.randrange(10 ** display[0]), presses)
                for tick in range(-35, 36, 5):
                    self.assertEqual(count_at(display, history, tick), count_by_turns(display, history, tick))
                    self.assertEqual(shown_at(display, history, tick), shown_by_turns(display, history, tick))

    def test_at_presses_and_beside_them(self):
        for driver in ("now", "round"):
            display = (3, 10, 8, driver)
            history = (198, [-61, -60, 24, 30, 59, 61])
            ticks = [-62, -61, -60, -59, 23, 24, 25, 29, 30, 31, 58, 59, 60, 61, 62]
            counts = [198, 199, 200, 200, 200, 201, 201, 201, 202, 202, 202, 203, 203, 204, 204]
            self.assertEqual([count_at(display, history, tick) for tick in ticks], counts)
        shown = [198, 198, 200, 200, 200, 200, 200, 200, 202, 202, 202, 202, 203, 203, 203]
        self.assertEqual([shown_at((3, 10, 8, "round"), history, tick) for tick in ticks], shown)
        self.assertEqual([shown_at((3, 10, 8, "now"), history, tick) for tick in ticks], counts)

    def test_past_the_greatest_number(self):
        for places in range(1, 9):
            most = 10 ** places - 1
            for driver in ("now", "round"):
                display = (places, 1, 1, driver)
                history = (most, [0, 8 * places])
                self.assertEqual([count_at(display, history, tick) for tick in (-1, 0, 8 * places)], [most, 0, 1])
                self.assertEqual([shown_at(display, history, tick) for tick in (-1, 0, 8 * places)], [most, 0, 1])
        self.assertEqual(count_at((1, 1, 1, "now"), (7, MANY), 599), 7)
        self.assertEqual(count_at((1, 1, 1, "now"), (7, MANY), -600 + 25), 3)

    def test_at_the_multiples_of_the_round_and_beside_them(self):
        display = (3, 10, 8, "round")
        for multiple in (-60, -30, 0, 30, 90, 30 * 10 ** 28, -30 * 10 ** 28):
            for press, expected in [
                (multiple - 1, [4, 5, 5, 5]), (multiple, [4, 5, 5, 5]), (multiple + 1, [4, 4, 4, 5]),
                (multiple + 29, [4, 4, 4, 5]), (multiple + 30, [4, 4, 4, 5]), (multiple + 31, [4, 4, 4, 4]),
            ]:
                ticks = [multiple - 1, multiple, multiple + 29, multiple + 30]
                self.assertEqual([shown_at(display, (4, [press]), tick) for tick in ticks], expected, (multiple, press))

    def test_large_ticks(self):
        slot = 10 ** 27 + 39
        display = (8, slot, slot, "round")
        for many in (-120, -1, 0, 1, 120):
            begin = many * 8 * slot
            history = (99999999, [begin - 1, begin + 1])
            ticks = [begin - 1, begin, begin + 8 * slot - 1, begin + 8 * slot]
            self.assertEqual([shown_at(display, history, tick) for tick in ticks], [99999999, 0, 0, 1])

    def test_no_reference_is_kept(self):
        presses = [1, 2]
        history = (5, presses)
        self.assertEqual(count_at(DISPLAY, history, 10), 7)
        presses.append(3)
        self.assertEqual(count_at(DISPLAY, history, 10), 8)
        presses.clear()
        self.assertEqual(count_at(DISPLAY, history, 10), 5)

    def test_answered_at_once(self):
        with AtOnce():
            for tick in range(-50, 50):
                count_at(DISPLAY, (0, MANY), tick * 10 ** 28)
                shown_at((8, 10 ** 28, 1, "round"), (0, MANY), tick * 10 ** 28)


class Interface(unittest.TestCase):
    def test_arguments_by_name(self):
        self.assertIs(is_history(value=(0, []), display=DISPLAY), True)
        self.assertEqual(count_at(tick=4, history=(3, [4]), display=DISPLAY), 4)
        self.assertEqual(shown_at(tick=4, history=(3, [4]), display=(3, 10, 8, "round")), 3)

    def test_defined_here(self):
        for name in ["is_history", "count_at", "shown_at"]:
            self.assertEqual(getattr(pictures, name).__module__, "litdigits.pictures")


if __name__ == "__main__":
    unittest.main()
