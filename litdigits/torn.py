"""Torn pictures: what each moment of a single press brings about in a picture.

A press within the span divides the exposure: the ticks ahead of the one from which it is shown
show the old digits, the others the new ones. Which of the two digits of a place is lit for long
enough changes at two presses only, so the span falls into few rows.
"""

from litdigits.displays import check_display, check_place, lit_ahead, lit_tick
from litdigits.integers import check_tick
from litdigits.pictures import check_camera, check_number, number_with, numbers_of, shown_until
from litdigits.segments import PATTERNS, common_of, digit_of, union_of

# The states of a place in a torn picture: which of its two digits is lit for long enough by itself.
# If neither is, the segments that both have can still be; a dark place is not seen at all.
NEITHER = 0
OLD = 1
NEW = 2
BOTH = 3
DARK = 4


def span_within(display, camera, begin):
    """The least and the greatest press of the span, the least one greater if there is none; nothing is checked."""
    return (shown_until(display, begin) + 1, shown_until(display, begin + camera[0] - 1))


def thresholds_within(display, camera, place, begin):
    """The thresholds of a place in the picture, None if it is not seen; nothing is checked."""
    exposure, need = camera
    before = lit_ahead(display, place, begin)
    after = lit_ahead(display, place, begin + exposure)
    if after - before < need:
        return None
    return (lit_tick(display, place, before + need - 1) + 1, lit_tick(display, place, after - need))


def press_turns(display, camera, place, begin):
    """The first press with which the old digit is seen, and the first one with which the new one no longer is.

    None if the place is not seen. Nothing is checked.
    """
    found = thresholds_within(display, camera, place, begin)
    if found is None:
        return None
    first, last = found
    return (shown_until(display, first - 1) + 1, shown_until(display, last) + 1)


def state_at(turns, press):
    """The state of a place with these turns for a press."""
    if turns is None:
        return DARK
    old_from, new_until = turns
    if press >= old_from:
        return BOTH if press < new_until else OLD
    return NEW if press < new_until else NEITHER


def torn_rows(display, camera, begin):
    """The span in rows (least, greatest, states): for these presses each place has its state; nothing is checked."""
    least, greatest = span_within(display, camera, begin)
    if least > greatest:
        return []
    turns = [press_turns(display, camera, place, begin) for place in range(display[0])]
    later = sorted({press for pair in turns if pair is not None for press in pair if least < press <= greatest})
    starts = [least, *later]
    ends = [start - 1 for start in later] + [greatest]
    return [(start, end, [state_at(pair, start) for pair in turns]) for start, end in zip(starts, ends)]


def digits_of(display, number):
    """The list of the digits of a number, modulo the numbers of the display, for each place."""
    text = str(number % numbers_of(display)).zfill(display[0])
    return [int(letter) for letter in text]


def torn_patterns(old, new):
    """The list of the patterns that a place shows, at the index of each state, if one digit becomes another."""
    one, other = PATTERNS[old], PATTERNS[new]
    return [common_of(one, other), one, other, union_of(one, other), ""]


def patterns_of_press(display, number):
    """For each place the patterns that it shows in each state, if the number is pressed once; nothing is checked."""
    old_digits, new_digits = digits_of(display, number), digits_of(display, number + 1)
    return [torn_patterns(old, new) for old, new in zip(old_digits, new_digits)]


def digits_of_press(display, number):
    """For each place the digits that it shows in each state, None for no digit; nothing is checked."""
    return [[digit_of(pattern) for pattern in patterns] for patterns in patterns_of_press(display, number)]


def in_states(table, states):
    """What each place shows in its state, by a table that has it for each place and state."""
    return [row[state] for row, state in zip(table, states)]


def joined(rows):
    """Rows (least, greatest, item) with neighbours that have equal items as one."""
    found = []
    for least, greatest, item in rows:
        if found and found[-1][2] == item:
            least = found.pop()[0]
        found.append((least, greatest, item))
    return found


def readings_within(display, camera, number, begin):
    """What torn_readings returns; nothing is checked."""
    table = digits_of_press(display, number)
    rows = torn_rows(display, camera, begin)
    return joined([(least, greatest, number_with(in_states(table, states))) for least, greatest, states in rows])


def press_span(display, camera, begin):
    """The stretch of the presses that are shown from a tick within the exposure, None if there is none."""
    check_display(display)
    check_camera(camera)
    check_tick(begin)
    least, greatest = span_within(display, camera, begin)
    return (least, greatest) if least <= greatest else None


def torn_pictures(display, camera, number, begin):
    """For the presses of the span the list of tuples (least, greatest, picture)."""
    check_display(display)
    check_camera(camera)
    check_number(display, number)
    check_tick(begin)
    table = patterns_of_press(display, number)
    rows = torn_rows(display, camera, begin)
    return joined([(least, greatest, in_states(table, states)) for least, greatest, states in rows])


def torn_readings(display, camera, number, begin):
    """For the presses of the span the list of tuples (least, greatest, reading)."""
    check_display(display)
    check_camera(camera)
    check_number(display, number)
    check_tick(begin)
    return readings_within(display, camera, number, begin)


def place_thresholds(display, camera, place, begin):
    """The least change with which the old digit is seen, and the greatest one with which the new one is, or None."""
    check_display(display)
    check_camera(camera)
    check_place(display, place)
    check_tick(begin)
    return thresholds_within(display, camera, place, begin)
