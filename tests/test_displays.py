"""Points 6 and 13."""

import unittest

from litdigits import displays
from litdigits.displays import is_display, is_lit, lit_place, lit_ticks, nth_lit, round_of
from litdigits.errors import InvalidDisplay
from tests.helper import NO_INTEGERS, AtOnce, called, lit_by_turns, small_displays

GOOD = [
    (1, 1, 1, "now"), (8, 1, 1, "round"), (3, 10, 8, "now"), (3, 10, 10, "round"), (2, 10 ** 30 - 1, 10 ** 30 - 1, "now"),
    (8, 10 ** 30 - 1, 1, "round"),
]

NO_DRIVERS = [
    "", "later", "Now", "NOW", "now ", " now", "Round", "rounds", "roun", "n", "nowround", ("now",), ["now"], 0, 1, -1,
    *[value for value in NO_INTEGERS if not isinstance(value, str)],
]

# Each wrong value of an item, with what else is right in the display (3, 10, 8, "now").
WRONG_ITEMS = {
    0: [0, 9, 10, -1, -3, 10 ** 30, *NO_INTEGERS],
    1: [0, -1, -10, -10 ** 30, *NO_INTEGERS],
    2: [0, -1, -8, 11, 12, 10 ** 30, *NO_INTEGERS],
    3: NO_DRIVERS,
}

NO_TUPLES_OF_FOUR = [
    [3, 10, 8, "now"], (), (3,), (3, 10), (3, 10, 8), (3, 10, 8, "now", "now"), (3, 10, 8, "now", None), "3x10/8 now",
    "now", [], [(3, 10, 8, "now")], ((3, 10, 8, "now"),), {0: 3, 1: 10, 2: 8, 3: "now"}, 0, 4, -1, *NO_INTEGERS,
]


def with_item(index, value, display=(3, 10, 8, "now")):
    return display[:index] + (value,) + display[index + 1:]


class Displays(unittest.TestCase):
    def refused(self, value, index):
        self.assertIs(called(is_display, value), False, repr(value))
        calls = [
            (round_of,), (is_lit, 0, 0), (lit_place, 0), (lit_ticks, 0, 0, 5), (nth_lit, 0, 0, 0),
        ]
        for function, *others in calls:
            error = called(function, value, *others)
            self.assertIs(type(error), InvalidDisplay, repr(value))
            self.assertEqual(error.index, index, repr(value))
            self.assertIs(type(error.index), type(index))

    def test_displays(self):
        for display in [*GOOD, *small_displays(8, 3)]:
            self.assertIs(called(is_display, display), True, display)

    def test_each_item_wrong_by_itself(self):
        for index, values in WRONG_ITEMS.items():
            for value in values:
                self.refused(with_item(index, value), index)

    def test_two_wrong_items_and_more(self):
        for first in range(4):
            for second in range(first + 1, 4):
                for one in WRONG_ITEMS[first]:
                    for other in (None, "", -1, True):
                        self.refused(with_item(second, other, with_item(first, one)), first)
        self.refused((None, None, None, None), 0)
        self.refused((1, None, None, None), 1)
        self.refused((1, 1, None, None), 2)
        self.refused((1, 1, 1, None), 3)

    def test_lit_above_slot(self):
        for slot in (1, 2, 10, 10 ** 29):
            self.assertIs(is_display((1, slot, slot, "now")), True)
            self.refused((1, slot, slot + 1, "now"), 2)
            self.refused((1, slot, slot + 1, "later"), 2)
        self.refused((3, 0, 8, "now"), 1)

    def test_true_is_no_one(self):
        self.refused((True, 1, 1, "now"), 0)
        self.refused((1, True, 1, "now"), 1)
        self.refused((1, 1, True, "now"), 2)
        self.refused((1, 1, 1, True), 3)
        self.refused((True, True, True, "now"), 0)

    def test_no_tuple_of_four_items(self):
        for value in NO_TUPLES_OF_FOUR:
            self.refused(value, None)

    def test_round_of(self):
        for display in [*GOOD, *small_displays(8, 3)]:
            self.assertEqual(called(round_of, display), display[0] * display[1])


class LitTicks(unittest.TestCase):
    def test_is_lit_against_going_there(self):
        for display in small_displays(3, 4):
            for place in range(display[0]):
                for tick in range(-30, 31):
                    self.assertIs(is_lit(display, place, tick), lit_by_turns(display, place, tick), (display, place, tick))

    def test_lit_place_against_going_there(self):
        for display in small_displays(4, 4):
            for tick in range(-40, 41):
                lit = [place for place in range(display[0]) if lit_by_turns(display, place, tick)]
                self.assertLessEqual(len(lit), 1)
                found = called(lit_place, display, tick)
                self.assertEqual(found, lit[0] if lit else None, (display, tick))

    def test_at_most_one_place_is_lit_with_eight_places(self):
        display = (8, 3, 2, "now")
        for tick in range(-48, 49):
            lit = [place for place in range(8) if is_lit(display, place, tick)]
            self.assertEqual(lit, [] if tick % 3 == 2 else [tick // 3 % 8])
            self.assertEqual(lit_place(display, tick), lit[0] if lit else None)

    def test_lit_ticks_against_counting(self):
        for display in small_displays(3, 3):
            for place in range(display[0]):
                lit = [lit_by_turns(display, place, tick) for tick in range(-12, 13)]
                for begin in range(-12, 13):
                    for end in range(-12, 13):
                        expected = sum(lit[begin + 12:end + 12]) if end > begin else 0
                        self.assertEqual(lit_ticks(display, place, begin, end), expected, (display, place, begin, end))

    def test_empty_and_backward_windows(self):
        for begin, end in [(0, 0), (7, 7), (8, 7), (30, 0), (-5, -6), (10 ** 29, -10 ** 29), (10 ** 29, 10 ** 29)]:
            for place in range(3):
                answer = called(lit_ticks, (3, 10, 8, "now"), place, begin, end)
                self.assertEqual(answer, 0)
                self.assertIs(type(answer), int)

    def test_nth_lit_against_going_there(self):
        for display in small_displays(3, 3):
            for place in range(display[0]):
                lit = [tick for tick in range(-12, 100) if lit_by_turns(display, place, tick)]
                for begin in range(-12, 13):
                    later = [tick for tick in lit if tick >= begin]
                    for index in range(7):
                        self.assertEqual(nth_lit(display, place, begin, index), later[index], (display, place, begin))

    def test_index_of_many_digits(self):
        for display in [(3, 10, 8, "now"), (8, 7, 7, "round"), (1, 5, 1, "now"), (2, 10 ** 27 + 1, 10 ** 27, "now")]:
            places, slot, lit, _ = display
            for place in range(places):
                for tick in (0, -1, place * slot + 3, -10 ** 30 + 1, 10 ** 30 - 1):
                    for index in (10 ** 30, 10 ** 50 + 7, 10 ** 5000 + 1):
                        found = called(nth_lit, display, place, tick, index)
                        self.assertTrue(is_lit(display, place, found))
                        self.assertEqual(lit_ticks(display, place, tick, found), index)
                        self.assertEqual(nth_lit(display, place, tick, index + lit), found + places * slot)

    def test_the_driver_changes_nothing(self):
        for tick in range(-40, 40):
            one, other = (3, 10, 8, "now"), (3, 10, 8, "round")
            self.assertEqual(lit_place(one, tick), lit_place(other, tick))
            for place in range(3):
                self.assertEqual(is_lit(one, place, tick), is_lit(other, place, tick))
                self.assertEqual(lit_ticks(one, place, tick, 50), lit_ticks(other, place, tick, 50))
                self.assertEqual(nth_lit(one, place, tick, 9), nth_lit(other, place, tick, 9))


class LargeNumbers(unittest.TestCase):
    def test_slots_of_28_digits(self):
        slot = 10 ** 27 + 39
        for lit in (1, 2, 10 ** 27, slot - 1, slot):
            display = (8, slot, lit, "now")
            turn = 8 * slot
            for place in range(8):
                for many in (0, 1, -1, 57, -98, 124):
                    begin = many * turn + place * slot
                    self.assertLess(abs(begin), 10 ** 30)
                    self.at_slot(display, place, begin)

    def at_slot(self, display, place, begin):
        """What is lit in the ticks of a slot that begins at begin, and beside it."""
        slot, lit = display[1], display[2]
        before = (place - 1) % 8
        for past, expected in [(0, True), (lit - 1, True), (lit, False), (slot - 1, lit == slot), (slot, False), (-1, False)]:
            self.assertIs(is_lit(display, place, begin + past), expected)
        self.assertEqual(lit_place(display, begin), place)
        self.assertEqual(lit_place(display, begin + lit - 1), place)
        self.assertEqual(lit_place(display, begin + slot), (place + 1) % 8)
        self.assertEqual(lit_place(display, begin - 1), before if lit == slot else None)
        if lit < slot:
            self.assertIsNone(lit_place(display, begin + lit))
        self.windows(display, place, begin)
        self.indexes(display, place, begin)

    def windows(self, display, place, begin):
        slot, lit = display[1], display[2]
        turn = 8 * slot
        for left, right, expected in [
            (0, 1, 1), (0, lit, lit), (0, lit + 1, lit), (0, slot, lit), (-1, lit, lit), (1, lit, lit - 1), (-1, 0, 0),
            (lit - 1, lit, 1), (lit, turn, 0), (lit, turn + 1, 1), (lit - 1, turn + 1, 2), (0, turn, lit),
            (1, turn + 1, lit), (-5 * turn, 7 * turn, 12 * lit), (-5 * turn + 1, 7 * turn - 1, 12 * lit - 1),
        ]:
            self.assertEqual(lit_ticks(display, place, begin + left, begin + right), expected)

    def indexes(self, display, place, begin):
        slot, lit = display[1], display[2]
        turn = 8 * slot
        for left, index, expected in [
            (0, 0, 0), (0, lit - 1, lit - 1), (0, lit, turn), (lit - 1, 0, lit - 1), (lit - 1, 1, turn), (lit, 0, turn),
            (-1, 0, 0), (1 - turn, lit - 1, 0), (slot, lit, 2 * turn), (0, 10 ** 40 * lit, 10 ** 40 * turn),
        ]:
            self.assertEqual(nth_lit(display, place, begin + left, index), begin + expected, (left, index))

    def test_ticks_of_30_digits(self):
        display = (3, 10, 8, "round")
        for tick in (10 ** 30 - 1, -10 ** 30 + 1, 10 ** 29, -10 ** 29):
            near = tick % 30
            for past in range(-31, 32):
                for place in range(3):
                    self.assertIs(is_lit(display, place, tick + past), lit_by_turns(display, place, near + past))
                    expected = sum(lit_by_turns(display, place, near + some) for some in range(past))
                    self.assertEqual(lit_ticks(display, place, tick, tick + past), expected)
        self.assertEqual(lit_ticks(display, 1, -10 ** 29, 2 * 10 ** 29), 8 * 10 ** 28)

    def test_answered_at_once(self):
        display = (8, 10 ** 28 - 1, 10 ** 27, "now")
        with AtOnce():
            for _ in range(1000):
                lit_ticks(display, 7, -10 ** 30 + 1, 10 ** 30 - 1)
                nth_lit(display, 7, -10 ** 30 + 1, 10 ** 60)
                lit_place(display, 10 ** 30 - 1)


class Interface(unittest.TestCase):
    def test_arguments_by_name(self):
        display = (3, 10, 8, "now")
        self.assertIs(is_display(value=display), True)
        self.assertEqual(round_of(display=display), 30)
        self.assertIs(is_lit(tick=10, place=1, display=display), True)
        self.assertEqual(lit_place(tick=25, display=display), 2)
        self.assertEqual(lit_ticks(display=display, end=45, begin=12, place=1), 11)
        self.assertEqual(nth_lit(index=6, tick=12, place=1, display=display), 40)

    def test_defined_here(self):
        for name in ["is_display", "round_of", "is_lit", "lit_place", "lit_ticks", "nth_lit"]:
            self.assertEqual(getattr(displays, name).__module__, "litdigits.displays")


if __name__ == "__main__":
    unittest.main()
