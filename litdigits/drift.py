"""Rows of pictures that are begun a period apart: which of them have a dark place, and how many."""

from math import gcd

from litdigits.clear import clear_stretches, common_stretches, left_out, wrapped
from litdigits.displays import check_display
from litdigits.integers import check_number_from, check_tick
from litdigits.pictures import check_camera


def first_multiple_within(step, modulus, low, high):
    """The least k from 0 on for which k * step modulo modulus is from low to high, None if there is none.

    low and high are from 0 to modulus - 1, and low is not greater than high.
    """
    passed = []
    while low > 0:
        step = step % modulus
        if step == 0:
            return None
        if (high // step) * step >= low:
            break
        # No multiple of step is between them without going round the modulus. So the question is how
        # often to go round it: what is then missing to a multiple of step must be from low to high.
        passed.append((step, modulus, low))
        step, modulus, low, high = modulus, step, -high % step, -low % step
    found = -(-low // step)
    for earlier_step, earlier_modulus, earlier_low in reversed(passed):
        found = -(-(earlier_low + found * earlier_modulus) // earlier_step)
    return found


def first_within(start, step, modulus, stretches):
    """The least k from 0 on for which start + k * step modulo modulus is in one of the stretches, or None."""
    found = []
    for least, greatest in stretches:
        low = (least - start) % modulus
        high = low + greatest - least
        # Where the stretch, seen from start, goes past the modulus, start itself is in it.
        found.append(0 if high >= modulus else first_multiple_within(step, modulus, low, high))
    return min([index for index in found if index is not None], default=None)


def sum_of_floors(start, step, modulus, many):
    """The sum of (start + k * step) // modulus for k from 0 to many - 1; step is not below 0."""
    total = 0
    while many > 0:
        total += many * (many - 1) // 2 * (step // modulus) + many * (start // modulus)
        step, start = step % modulus, start % modulus
        # What is left is counted the other way round: for each whole number, at how many k it is reached.
        many, start = divmod(start + step * many, modulus)
        step, modulus = modulus, step
    return total


def count_within(start, step, modulus, stretches, many):
    """For how many k from 0 to many - 1 start + k * step modulo modulus is in one of the stretches."""
    total = 0
    for least, greatest in stretches:
        total += sum_of_floors(start - least, step, modulus, many)
        total -= sum_of_floors(start - greatest - 1, step, modulus, many)
    return total


def dark_stretches(display, camera):
    """The stretches of the begins from 0 to round - 1 for which some place is not seen; nothing is checked."""
    return left_out(clear_stretches(display, camera), display[0] * display[1])


def first_dark(display, camera, first, period):
    """The least k for which some place is not seen in the picture begun at first + k * period, or None."""
    check_display(display)
    check_camera(camera)
    check_tick(first)
    check_number_from(period, 1)
    return first_within(first, period, display[0] * display[1], dark_stretches(display, camera))


def first_clear(display, camera, first, period):
    """The least k for which all places are seen in the picture begun at first + k * period, or None."""
    check_display(display)
    check_camera(camera)
    check_tick(first)
    check_number_from(period, 1)
    return first_within(first, period, display[0] * display[1], clear_stretches(display, camera))


def count_dark(display, camera, first, period, many):
    """For how many of the first many pictures, each begun a period behind the one before, some place is not seen."""
    check_display(display)
    check_camera(camera)
    check_tick(first)
    check_number_from(period, 1)
    check_number_from(many, 0)
    return count_within(first, period, display[0] * display[1], dark_stretches(display, camera), many)


def clear_firsts(display, camera, period):
    """The common divisor of period and round, and what a first begin is modulo it if all pictures are clear."""
    check_display(display)
    check_camera(camera)
    check_number_from(period, 1)
    modulus = gcd(period, display[0] * display[1])
    found = [(0, modulus - 1)]
    # The pictures come to all begins that are equal modulo the modulus, so none of these may be dark.
    for least, greatest in dark_stretches(display, camera):
        found = common_stretches(found, left_out(wrapped(least, greatest, modulus), modulus))
    return (modulus, found)
