"""Points 26 and 27."""

import math
import random
import unittest

from litdigits.errors import InvalidCounter, InvalidNumber, InvalidTick, TooLarge
from litdigits.paces import count_steps, first_step, number_row, paced_count, paced_history, row_again, seen_steps
from litdigits.pictures import count_at, is_history
from tests.helper import NO_INTEGERS, STRANGE, AtOnce, called, lists_in

DISPLAY, COUNTER = (3, 10, 8, "now"), (5, 0, 7)


def counts_by_turns(display, counter, begin, end):
    """The counts at the ticks from begin to end, found by going on from the since tick, one tick after the other."""
    number, since, pace = counter
    many = 10 ** display[0]
    found = {}
    count, left = number, pace
    for tick in range(since, end + 1):
        found[tick] = count
        left -= 1
        if left == 0:
            count, left = (0 if count == many - 1 else count + 1), pace
    count, left = number, 0
    for tick in range(since - 1, begin - 1, -1):
        if left == 0:
            count, left = (many - 1 if count == 0 else count - 1), pace
        left -= 1
        found[tick] = count
    return found


SOME = [(number, since, pace) for number in (0, 5, 9) for since in (-20, -3, 0, 4, 30) for pace in (1, 2, 3, 7, 10, 25)]


class Counts(unittest.TestCase):
    def test_against_counting(self):
        for places in (1, 2):
            display = (places, 10, 8, "round")
            for counter in SOME:
                counts = counts_by_turns(display, counter, -60, 90)
                for tick in range(-60, 91):
                    self.assertEqual(called(paced_count, display, counter, tick), counts[tick], (counter, tick))

    def test_rows(self):
        display = (1, 10, 8, "now")
        for counter in SOME:
            counts = counts_by_turns(display, counter, -60, 400)
            for first, period, many in [(-60, 1, 60), (-5, 7, 20), (0, 3, 0), (4, 10, 1), (0, 25, 10), (-60, 13, 30)]:
                expected = [counts[first + index * period] for index in range(many)]
                self.assertEqual(called(number_row, display, counter, first, period, many), expected)

    def test_great_ticks(self):
        counter = (999, -10 ** 29, 10 ** 25)
        for tick, count in [(-10 ** 29, 999), (10 ** 25 - 10 ** 29, 0), (10 ** 25 - 10 ** 29 - 1, 999), (0, 999), (-10 ** 29 - 1, 998)]:
            self.assertEqual(called(paced_count, DISPLAY, counter, tick), count, tick)
        self.assertEqual(called(paced_count, DISPLAY, (0, 10 ** 29, 1), -10 ** 29), 0)
        self.assertEqual(called(paced_count, DISPLAY, (7, 10 ** 29, 3), -10 ** 29), (7 - (2 * 10 ** 29 + 2) // 3) % 1000)
        row = called(number_row, DISPLAY, (0, 0, 10 ** 28), 10 ** 29, 10 ** 28 + 10 ** 27, 12)
        self.assertEqual(row, [10, 11, 12, 13, 14, 15, 16, 17, 18, 19, 21, 22])

    def test_the_display_gives_the_numbers_alone(self):
        for display in [(2, 1, 1, "now"), (2, 99, 5, "round")]:
            self.assertEqual(called(number_row, display, (98, 0, 1), 0, 1, 4), [98, 99, 0, 1])

    def test_wrong_counters(self):
        for value, index in [
            (None, None), ([5, 0, 7], None), ((5, 0), None), ((5, 0, 7, 1), None), ((), None), ((1000, None, 0), 0), ((-1, 0, 7), 0),
            ((5, "0", 0), 1), ((5, 0.0, 7), 1), ((5, True, 7), 1), ((5, 0, 0), 2), ((5, 0, -7), 2), ((5, 0, True), 2), ((True, 0, 7), 0),
            *[(some, None) for some in STRANGE], *[((some, 0, 7), 0) for some in STRANGE], *[((5, some, 7), 1) for some in STRANGE],
            *[((5, 0, some), 2) for some in STRANGE],
        ]:
            for answer in [
                called(paced_count, DISPLAY, value, 0), called(number_row, DISPLAY, value, 0, 1, 1), called(paced_history, DISPLAY, value, 0, 1),
                called(first_step, DISPLAY, value, 0, 1, 1), called(count_steps, DISPLAY, value, 0, 1, 1, 1),
            ]:
                self.assertIs(type(answer), InvalidCounter, repr(value))
                self.assertEqual(answer.index, index, repr(value))

    def test_wrong_rows(self):
        for many in (-1, 61, 10 ** 29, *NO_INTEGERS):
            self.assertIs(type(called(number_row, DISPLAY, COUNTER, 0, 1, many)), InvalidNumber)
        self.assertEqual(len(called(number_row, DISPLAY, COUNTER, 0, 1, 60)), 60)
        for period in (0, -1, *NO_INTEGERS):
            self.assertIs(type(called(number_row, DISPLAY, COUNTER, 0, period, 61)), InvalidNumber)


class Histories(unittest.TestCase):
    def test_against_all_ticks(self):
        choice = random.Random(26)
        for places in (1, 2):
            display = (places, 10, 8, "now")
            for counter in SOME:
                counts = counts_by_turns(display, counter, -80, 120)
                for begin, end in [(-80, 120), (-80, -80), (0, 0), *[sorted(choice.sample(range(-80, 121), 2)) for _ in range(8)]]:
                    presses = [tick for tick in range(begin + 1, end + 1) if counts[tick] != counts[tick - 1]]
                    self.assertEqual(called(paced_history, display, counter, begin, end), (counts[begin], presses))

    def test_the_history_counts_as_the_counter_does(self):
        for counter in SOME:
            display = (1, 10, 8, "round")
            history = called(paced_history, display, counter, -30, 100)
            self.assertIs(is_history(display, history), True)
            for tick in range(-30, 101):
                self.assertEqual(count_at(display, history, tick), called(paced_count, display, counter, tick))

    def test_begin_equal_to_end(self):
        for begin in (-7, -1, 0, 7, 14, 10 ** 29):
            count = called(paced_count, DISPLAY, COUNTER, begin)
            self.assertEqual(called(paced_history, DISPLAY, COUNTER, begin, begin), (count, []))

    def test_a_press_at_the_begin_is_none_and_at_the_end_is_one(self):
        self.assertEqual(called(paced_history, DISPLAY, COUNTER, 13, 14), (6, [14]))
        self.assertEqual(called(paced_history, DISPLAY, COUNTER, 14, 20), (7, []))
        self.assertEqual(called(paced_history, DISPLAY, COUNTER, 14, 21), (7, [21]))

    def test_most_presses(self):
        for pace in (1, 7, 10 ** 26):
            for since in (0, 3, -10 ** 28):
                counter = (998, since, pace)
                begin = since + 5 * pace + pace // 2
                last = begin - pace // 2 + 1200 * pace
                _, presses = called(paced_history, DISPLAY, counter, begin, last)
                self.assertEqual(presses, [since + index * pace for index in range(6, 1206)])
                self.assertEqual(len(called(paced_history, DISPLAY, counter, begin, last + pace - 1)[1]), 1200)
                for end in (last + pace, last + 2 * pace, last + 10 ** 29):
                    error = called(paced_history, DISPLAY, counter, begin, end)
                    self.assertIs(type(error), TooLarge)
                    self.assertEqual(error.limit, 1200)

    def test_paces_far_greater_than_the_window(self):
        counter = (5, 0, 10 ** 29)
        self.assertEqual(called(paced_history, DISPLAY, counter, -10, 10), (4, [0]))
        self.assertEqual(called(paced_history, DISPLAY, counter, 0, 10 ** 29 - 1), (5, []))
        self.assertEqual(called(paced_history, DISPLAY, counter, -1, 10 ** 29), (4, [0, 10 ** 29]))

    def test_too_many_presses_at_once(self):
        with AtOnce():
            self.assertIs(type(called(paced_history, DISPLAY, (5, 0, 1), -10 ** 29, 10 ** 29)), TooLarge)

    def test_wrong_ends(self):
        for end in (9, 0, -10 ** 29, *NO_INTEGERS):
            self.assertIs(type(called(paced_history, DISPLAY, COUNTER, 10, end)), InvalidTick, repr(end))
        for begin in NO_INTEGERS:
            self.assertIs(type(called(paced_history, DISPLAY, COUNTER, begin, 5)), InvalidTick, repr(begin))
        # Too many presses come last.
        self.assertIs(type(called(paced_history, DISPLAY, COUNTER, 10 ** 9, 0)), InvalidTick)


class Steps(unittest.TestCase):
    def differences(self, display, counter, first, period, many):
        counts = counts_by_turns(display, counter, min(first, counter[1]), max(first + (many + 1) * period, counter[1]))
        row = [counts[first + index * period] for index in range(many + 1)]
        return [(later - earlier) % 10 ** display[0] for earlier, later in zip(row, row[1:])]

    def test_seen_steps_of_all_counters(self):
        for places in (1, 2):
            display = (places, 10, 8, "now")
            for pace in (1, 2, 3, 7, 10, 12):
                for period in [1, 2, 3, 5, 7, 9, 10, 11, 12, 24, 69, 70, 71, 99, 100, 101, 120, 239, 700]:
                    expected = {self.differences(display, (0, since, pace), 0, period, 1)[0] for since in range(pace)}
                    self.assertEqual(called(seen_steps, display, pace, period), sorted(expected), (pace, period))

    def test_first_step_and_count_steps_one_by_one(self):
        display = (1, 10, 8, "now")
        for number, since, pace in SOME[::2]:
            for first, period in [(0, 1), (-9, 3), (5, 7), (0, 10), (2, 12), (-4, 26), (1, 71), (0, 99)]:
                found = self.differences(display, (number, since, pace), first, period, 40)
                for step in range(10):
                    given = (display, (number, since, pace), first, period, step)
                    # The rest of the pace comes again behind at most pace pictures.
                    expected = found.index(step) if step in found else None
                    self.assertEqual(called(first_step, *given), expected, given)
                    for many in (0, 1, 2, 7, 39, 40):
                        self.assertEqual(called(count_steps, *given, many), found[:many].count(step), given)

    def test_drawn_ones(self):
        choice = random.Random(27)
        for _ in range(150):
            display = (choice.choice([1, 2]), 10, 8, "round")
            many = 10 ** display[0]
            counter = (choice.randrange(many), choice.randrange(-50, 50), choice.randrange(1, 60))
            first, period = choice.randrange(-50, 50), choice.randrange(1, 200)
            found = self.differences(display, counter, first, period, 60)
            self.assertLessEqual(set(found), set(seen_steps(display, counter[2], period)))
            for step in [*set(found), choice.randrange(many)]:
                expected = found.index(step) if step in found else None
                self.assertEqual(called(first_step, display, counter, first, period, step), expected)
                self.assertEqual(called(count_steps, display, counter, first, period, step, 60), found.count(step))

    def test_multiples_of_the_pace(self):
        for pace in (1, 7, 10 ** 28):
            for times in (1, 2, 999, 1000, 1001, 2500):
                period = pace * times
                self.assertEqual(called(seen_steps, DISPLAY, pace, period), [times % 1000])
                for step in (times % 1000, (times + 1) % 1000, (times - 1) % 1000):
                    same = step == times % 1000
                    self.assertEqual(called(first_step, DISPLAY, (5, 3, pace), 0, period, step), 0 if same else None)
                    self.assertEqual(called(count_steps, DISPLAY, (5, 3, pace), 0, period, step, 10 ** 29), 10 ** 29 if same else 0)

    def test_steps_round_the_greatest_number(self):
        self.assertEqual(called(seen_steps, (1, 10, 8, "now"), 3, 29), [0, 9])
        self.assertEqual(called(seen_steps, (1, 10, 8, "now"), 3, 31), [0, 1])
        self.assertEqual(called(first_step, (1, 10, 8, "now"), (0, 0, 3), 0, 29, 9), 0)
        self.assertEqual(called(first_step, (1, 10, 8, "now"), (0, 0, 3), 0, 29, 0), 1)
        self.assertIsNone(called(first_step, (1, 10, 8, "now"), (0, 0, 3), 0, 29, 1))

    def test_great_numbers_at_once(self):
        choice = random.Random(29)
        with AtOnce():
            for _ in range(60):
                pace, period = choice.randrange(1, 10 ** 29), choice.randrange(1, 10 ** 29)
                counter, first = (choice.randrange(1000), choice.randrange(-10 ** 29, 10 ** 29), pace), choice.randrange(-10 ** 29, 10 ** 29)
                steps = called(seen_steps, DISPLAY, pace, period)
                self.assertEqual(steps, sorted({period // pace % 1000, (period // pace + 1) % 1000}))
                many = choice.randrange(10 ** 29)
                counts = [called(count_steps, DISPLAY, counter, first, period, step, many) for step in steps]
                self.assertEqual(sum(counts), many)
                for step, count in zip(steps, counts):
                    self.check_first(counter, first, period, step, count, many)

    def check_first(self, counter, first, period, step, count, many):
        found = called(first_step, DISPLAY, counter, first, period, step)
        self.assertEqual(found is not None and found < many, count > 0)
        if found is not None:
            row = called(number_row, DISPLAY, counter, first + found * period, period, 2)
            self.assertEqual((row[1] - row[0]) % 1000, step)
            self.assertEqual(called(count_steps, DISPLAY, counter, first, period, step, found), 0)
            self.assertEqual(called(count_steps, DISPLAY, counter, first, period, step, found + 1), 1)

    def test_a_rare_step(self):
        # The rest of the period is a single tick: the greater step comes once in 10 ** 28 pictures.
        pace = 10 ** 28
        for since, expected in [(0, pace - 1), (1, 0), (2, 1), (-1, pace - 2)]:
            self.assertEqual(called(first_step, DISPLAY, (0, since, pace), 0, 7 * pace + 1, 8), expected)
            self.assertEqual(called(count_steps, DISPLAY, (0, since, pace), 0, 7 * pace + 1, 8, 3 * pace), 3)
        # With a rest of two ticks it comes twice as often, and is two ticks wide.
        for since, expected in [(0, pace // 2 - 1), (1, 0), (2, 0), (3, 1), (4, 1), (-1, pace // 2 - 1)]:
            self.assertEqual(called(first_step, DISPLAY, (0, since, pace), 0, 7 * pace + 2, 8), expected)

    def test_wrong_steps_and_numbers(self):
        for step in (-1, 1000, 10 ** 29, *NO_INTEGERS):
            self.assertIs(type(called(first_step, DISPLAY, COUNTER, 0, 30, step)), InvalidNumber)
            self.assertIs(type(called(count_steps, DISPLAY, COUNTER, 0, 30, step, 5)), InvalidNumber)
        for places in (1, 2, 8):
            display = (places, 1, 1, "now")
            self.assertIsNone(called(first_step, display, COUNTER, 0, 30, 10 ** places - 1))
            self.assertIs(type(called(first_step, display, COUNTER, 0, 30, 10 ** places)), InvalidNumber)
        for many in (-1, *NO_INTEGERS):
            self.assertIs(type(called(count_steps, DISPLAY, COUNTER, 0, 30, 5, many)), InvalidNumber)
        for value in (0, -1, *NO_INTEGERS):
            self.assertIs(type(called(seen_steps, DISPLAY, value, 5)), InvalidNumber)
            self.assertIs(type(called(seen_steps, DISPLAY, 5, value)), InvalidNumber)
            self.assertIs(type(called(row_again, DISPLAY, value, 5)), InvalidNumber)
            self.assertIs(type(called(row_again, DISPLAY, 5, value)), InvalidNumber)
            self.assertIs(type(called(first_step, DISPLAY, COUNTER, 0, value, 5)), InvalidNumber)
            self.assertIs(type(called(count_steps, DISPLAY, COUNTER, 0, value, 5, 5)), InvalidNumber)


class RowAgain(unittest.TestCase):
    def test_the_least_one(self):
        display = (1, 10, 8, "now")
        for pace in (1, 2, 3, 4, 6, 7, 10):
            for period in [*range(1, 25), 30, 60, 69, 70, 71, 100, 140]:
                found = called(row_again, display, pace, period)
                for times in range(1, found + 1):
                    same = all((times * period - since) // pace % 10 == -since // pace % 10 for since in range(pace))
                    self.assertIs(same, times == found, (pace, period, times))

    def test_great_numbers(self):
        for pace, period, expected in [
            (10 ** 28, 10 ** 28, 1000), (10 ** 28, 1, 10 ** 31), (1, 10 ** 29, 1), (10 ** 28, 10 ** 31, 1), (10 ** 28 + 1, 10 ** 28, 10 ** 28 + 1),
            (10 ** 28, 10 ** 28 + 1, 10 ** 31), (3 * 10 ** 27, 2 * 10 ** 27, 1500),
        ]:
            self.assertEqual(called(row_again, DISPLAY, pace, period), expected)
            self.assertEqual(expected * period % (pace * 1000), 0)
        choice = random.Random(1)
        for _ in range(40):
            pace, period = choice.randrange(1, 10 ** 29), choice.randrange(1, 10 ** 29)
            found = called(row_again, (2, 1, 1, "now"), pace, period)
            self.assertEqual(found, pace * 100 // math.gcd(pace * 100, period))

    def test_answers_are_new_lists(self):
        for answer in [
            lambda: number_row(DISPLAY, COUNTER, 0, 30, 5), lambda: paced_history(DISPLAY, COUNTER, 0, 30), lambda: seen_steps(DISPLAY, 7, 30),
        ]:
            one, other = answer(), answer()
            self.assertEqual(len({id(some) for some in lists_in(one) + lists_in(other)}), 2)
            lists_in(one)[0].clear()
            self.assertEqual(answer(), other)


if __name__ == "__main__":
    unittest.main()
