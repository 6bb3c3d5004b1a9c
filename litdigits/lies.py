"""Pictures that lie: torn pictures that show a number that never was."""

from litdigits.clear import clear_stretches
from litdigits.displays import check_display
from litdigits.integers import check_tick, is_integer
from litdigits.pictures import check_camera, check_number, number_with, numbers_of, picture_begun
from litdigits.segments import digit_of
from litdigits.torn import digits_of_press, in_states, readings_within, torn_rows


def is_lie(display, number, reading):
    """Whether a reading is that of a lie of a number; nothing is checked."""
    return reading is not None and reading != number and reading != (number + 1) % numbers_of(display)


def clear_ticks(display, camera):
    """The list of all begins from 0 to round - 1 for which all places are seen; nothing is checked."""
    return [begin for least, greatest in clear_stretches(display, camera) for begin in range(least, greatest + 1)]


def first_lie(display, camera, number):
    """The first tuple (begin, press) of a lie of a number, None if there is none; nothing is checked."""
    table = digits_of_press(display, number)
    # A picture in which a place is dark has no reading.
    for begin in clear_ticks(display, camera):
        for least, _, states in torn_rows(display, camera, begin):
            if is_lie(display, number, number_with(in_states(table, states))):
                return (begin, least)
    return None


def possible_states(display, camera):
    """The different lists of the states of all places, if all places are seen; nothing is checked."""
    found = {}
    for begin in clear_ticks(display, camera):
        for _, _, states in torn_rows(display, camera, begin):
            found[tuple(states)] = True
    return [list(states) for states in found]


def numbers_by_kind(display):
    """The ascending list of the tuples (kind, number) with one number of each kind; nothing is checked."""
    found = []
    power = 1
    for nines in range(display[0]):
        found += [((nines, digit), digit * power + power - 1) for digit in range(9)]
        power = power * 10
    return [*found, ((display[0], 9), power - 1)]


def lies_in_states(display, number, rows):
    """Whether a number has a lie in one of several lists of states; nothing is checked."""
    table = digits_of_press(display, number)
    return any([is_lie(display, number, number_with(in_states(table, states))) for states in rows])


def kind_of(display, number):
    """The kind of a number: how many digits 9 are at its end, and the digit ahead of them, 9 if there is none."""
    check_display(display)
    check_number(display, number)
    nines = 0
    while number % 10 == 9:
        nines += 1
        number = number // 10
    return (nines, number % 10 if nines < display[0] else 9)


def lies_at(display, camera, number, begin):
    """The tuples of torn_readings whose pictures are lies."""
    check_display(display)
    check_camera(camera)
    check_number(display, number)
    check_tick(begin)
    rows = readings_within(display, camera, number, begin)
    return [row for row in rows if is_lie(display, number, row[2])]


def can_lie(display, camera, number):
    """Whether there is a lie of a number with any begin and press."""
    check_display(display)
    check_camera(camera)
    check_number(display, number)
    return first_lie(display, camera, number) is not None


def lie_paper(display, camera, number):
    """A tuple (begin, press), begin from 0 to round - 1, of a lie of a number, None if there is none."""
    check_display(display)
    check_camera(camera)
    check_number(display, number)
    return first_lie(display, camera, number)


def shows_lie(display, camera, number, value):
    """Whether any value is a tuple (begin, press) of two integers whose picture is a lie of a number."""
    check_display(display)
    check_camera(camera)
    check_number(display, number)
    if not isinstance(value, tuple) or len(value) != 2:
        return False
    begin, press = value
    if not is_integer(begin) or not is_integer(press):
        return False
    picture = picture_begun(display, camera, (number, [press]), begin)
    return is_lie(display, number, number_with([digit_of(pattern) for pattern in picture]))


def lying_kinds(display, camera):
    """The ascending list of the kinds of all numbers that can lie."""
    check_display(display)
    check_camera(camera)
    rows = possible_states(display, camera)
    return [kind for kind, number in numbers_by_kind(display) if lies_in_states(display, number, rows)]


def is_truthful(display, camera):
    """Whether no number can lie."""
    check_display(display)
    check_camera(camera)
    rows = possible_states(display, camera)
    return not any([lies_in_states(display, number, rows) for _, number in numbers_by_kind(display)])
