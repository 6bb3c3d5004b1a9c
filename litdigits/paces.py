"""Counters with a pace: they go on by one each so many ticks, and what a row of pictures makes of that."""

from math import gcd

from litdigits.displays import check_display
from litdigits.drift import count_within, first_within
from litdigits.errors import InvalidCounter, InvalidTick, TooLarge
from litdigits.integers import check_number_from, check_number_within, check_tick, is_from, is_integer
from litdigits.pictures import MOST_PICTURES, MOST_PRESSES, is_number, numbers_of


def check_counter(display, value):
    """Raise InvalidCounter unless a value is a counter of a display; the display is not checked."""
    if not isinstance(value, tuple) or len(value) != 3:
        raise InvalidCounter(None)
    number, since, pace = value
    if not is_number(display, number):
        raise InvalidCounter(0)
    if not is_integer(since):
        raise InvalidCounter(1)
    if not is_from(pace, 1):
        raise InvalidCounter(2)


def check_end(begin, value):
    """Raise InvalidTick unless a value is a tick that is not ahead of the begin."""
    check_tick(value)
    if value < begin:
        raise InvalidTick("the end is ahead of the begin")


def counted_by(display, counter, tick):
    """The count of a counter at a tick; nothing is checked."""
    number, since, pace = counter
    return (number + (tick - since) // pace) % numbers_of(display)


def stretches_of_step(display, pace, period, step):
    """How far into a pace, from 0 to pace - 1, a tick is whose count is by a step from the one a period later.

    A list of stretches. Nothing is checked.
    """
    many = numbers_of(display)
    least, rest = divmod(period, pace)
    if step == least % many:
        return [(0, pace - rest - 1)]
    # Only if it is so far into its pace that the rest leads into the next one.
    if step == (least + 1) % many and rest > 0:
        return [(pace - rest, pace - 1)]
    return []


def paced_count(display, counter, tick):
    """The count of a counter at a tick."""
    check_display(display)
    check_counter(display, counter)
    check_tick(tick)
    return counted_by(display, counter, tick)


def number_row(display, counter, first, period, many):
    """The list of the counts at so many ticks, each one a period behind the one before."""
    check_display(display)
    check_counter(display, counter)
    check_tick(first)
    check_number_from(period, 1)
    check_number_within(many, 0, MOST_PICTURES)
    return [counted_by(display, counter, first + index * period) for index in range(many)]


def paced_history(display, counter, begin, end):
    """The history of a counter from one tick to another: the count at the first one, and the presses behind it."""
    check_display(display)
    check_counter(display, counter)
    check_tick(begin)
    check_end(begin, end)
    _, since, pace = counter
    first, last = (begin - since) // pace + 1, (end - since) // pace
    if last - first >= MOST_PRESSES:
        raise TooLarge(MOST_PRESSES)
    return (counted_by(display, counter, begin), [since + index * pace for index in range(first, last + 1)])


def seen_steps(display, pace, period):
    """The ascending list of the differences, modulo the numbers, of two counts a period apart."""
    check_display(display)
    check_number_from(pace, 1)
    check_number_from(period, 1)
    many = numbers_of(display)
    least, rest = divmod(period, pace)
    return sorted([least % many, (least + 1) % many]) if rest > 0 else [least % many]


def first_step(display, counter, first, period, step):
    """The least k for which the count goes on by a step from first + k * period to a period later, or None."""
    check_display(display)
    check_counter(display, counter)
    check_tick(first)
    check_number_from(period, 1)
    check_number_within(step, 0, numbers_of(display) - 1)
    _, since, pace = counter
    return first_within(first - since, period, pace, stretches_of_step(display, pace, period, step))


def count_steps(display, counter, first, period, step, many):
    """For how many k from 0 to many - 1 the count goes on by a step from first + k * period to a period later."""
    check_display(display)
    check_counter(display, counter)
    check_tick(first)
    check_number_from(period, 1)
    check_number_within(step, 0, numbers_of(display) - 1)
    check_number_from(many, 0)
    _, since, pace = counter
    return count_within(first - since, period, pace, stretches_of_step(display, pace, period, step), many)


def row_again(display, pace, period):
    """The least r for which the counts at any two ticks that are r * period apart are equal."""
    check_display(display)
    check_number_from(pace, 1)
    check_number_from(period, 1)
    # So long a time must be a multiple of the pace, and its presses a multiple of the numbers.
    cycle = pace * numbers_of(display)
    return cycle // gcd(cycle, period)
