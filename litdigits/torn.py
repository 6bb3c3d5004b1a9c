"""Torn pictures: what each moment of a single press brings about in a picture.

A press within the span divides the exposure: the ticks ahead of the one from which it is shown
show the old digits, the others the new ones. Which of the two digits of a place is lit for long
enough changes at two presses only, so the span falls into few rows.
"""

from litdigits.displays import check_display, check_place, lit_ahead, lit_tick
from litdigits.integers import check_tick
from litdigits.pictures import check_camera, check_number, number_with, shown_until
from litdigits.segments import PATTERNS

# The states of a place in a torn picture: which of its two digits is lit for long enough by itself.
# If neither is, the segments that both have can still be; a dark place is not seen at all.
NEITHER = 0
OLD = 1
NEW = 2
BOTH = 3
DARK = 4

# For each digit the patterns that a place shows in each state, if this digit becomes the next one, 9 becomes 0.
TORN_PATTERNS = (
    ("bc", "abcdef", "bc", "abcdef", ""),
    ("b", "bc", "abdeg", "abcdeg", ""),
    ("abdg", "abdeg", "abcdg", "abcdeg", ""),
    ("bcg", "abcdg", "bcfg", "abcdfg", ""),
    ("cfg", "bcfg", "acdfg", "abcdfg", ""),
    ("acdfg", "acdfg", "acdefg", "acdefg", ""),
    ("ac", "acdefg", "abc", "abcdefg", ""),
    ("abc", "abc", "abcdefg", "abcdefg", ""),
    ("abcdfg", "abcdefg", "abcdfg", "abcdefg", ""),
    ("abcdf", "abcdfg", "abcdef", "abcdefg", ""),
)

# The digits that these patterns show.
TORN_DIGITS = (
    (1, 0, 1, 0, None),
    (None, 1, 2, None, None),
    (None, 2, 3, None, None),
    (None, 3, 4, 9, None),
    (None, 4, 5, 9, None),
    (5, 5, 6, 6, None),
    (None, 6, 7, 8, None),
    (7, 7, 8, 8, None),
    (9, 8, 9, 8, None),
    (None, 9, 0, 8, None),
)


def span_within(display, camera, begin):
    """The least and the greatest press of the span, the least one greater if there is none; nothing is checked."""
    return (shown_until(display, begin) + 1, shown_until(display, begin + camera[0] - 1))


def thresholds_within(display, camera, place, begin):
    """The thresholds of a place in the picture, None if it is not seen; nothing is checked."""
    exposure, need = camera
    before = lit_ahead(display, place, begin)
    after = lit_ahead(display, place, begin + exposure)
    if after - before < need:
        return None
    return (lit_tick(display, place, before + need - 1) + 1, lit_tick(display, place, after - need))


def press_turns(display, camera, place, begin):
    """The first press with which the old digit is seen, and the first one with which the new one no longer is.

    None if the place is not seen. Nothing is checked.
    """
    found = thresholds_within(display, camera, place, begin)
    if found is None:
        return None
    first, last = found
    return (shown_until(display, first - 1) + 1, shown_until(display, last) + 1)


def state_at(turns, press):
    """The state of a place with these turns for a press."""
    if turns is None:
        return DARK
    old_from, new_until = turns
    if press >= old_from:
        return BOTH if press < new_until else OLD
    return NEW if press < new_until else NEITHER


def torn_rows(display, camera, begin):
    """The span in rows (least, greatest, states): for these presses each place has its state; nothing is checked."""
    least, greatest = span_within(display, camera, begin)
    if least > greatest:
        return []
    turns = [press_turns(display, camera, place, begin) for place in range(display[0])]
    later = sorted({press for pair in turns if pair is not None for press in pair if least < press <= greatest})
    starts = [least, *later]
    ends = [start - 1 for start in later] + [greatest]
    return [(start, end, [state_at(pair, start) for pair in turns]) for start, end in zip(starts, ends)]


def changes_of_press(display, number):
    """For each place its digit, and whether a press changes it: all digits behind it are 9. Nothing is checked."""
    found = []
    changes = True
    for _ in range(display[0]):
        number, digit = divmod(number, 10)
        found.append((digit, changes))
        changes = changes and digit == 9
    return found[::-1]


def patterns_of_press(display, number):
    """For each place the patterns that it shows in each state, if the number is pressed once; nothing is checked."""
    return [
        TORN_PATTERNS[digit] if changes else (PATTERNS[digit], ) * DARK + ("", )
        for digit, changes in changes_of_press(display, number)
    ]


def digits_of_press(display, number):
    """For each place the digits that it shows in each state, None for no digit; nothing is checked."""
    return [
        TORN_DIGITS[digit] if changes else (digit, ) * DARK + (None, )
        for digit, changes in changes_of_press(display, number)
    ]


def in_states(table, states):
    """What each place shows in its state, by a table that has it for each place and state."""
    return [row[state] for row, state in zip(table, states)]


def joined(rows):
    """Rows (least, greatest, item) with neighbours that have equal items as one."""
    found = []
    for least, greatest, item in rows:
        if found and found[-1][2] == item:
            least = found.pop()[0]
        found.append((least, greatest, item))
    return found


def readings_within(display, camera, number, begin):
    """What torn_readings returns; nothing is checked."""
    table = digits_of_press(display, number)
    rows = torn_rows(display, camera, begin)
    return joined([(least, greatest, number_with(in_states(table, states))) for least, greatest, states in rows])


def press_span(display, camera, begin):
    """The stretch of the presses that are shown from a tick within the exposure, None if there is none."""
    check_display(display)
    check_camera(camera)
    check_tick(begin)
    least, greatest = span_within(display, camera, begin)
    return (least, greatest) if least <= greatest else None


def torn_pictures(display, camera, number, begin):
    """For the presses of the span the list of tuples (least, greatest, picture)."""
    check_display(display)
    check_camera(camera)
    check_number(display, number)
    check_tick(begin)
    table = patterns_of_press(display, number)
    rows = torn_rows(display, camera, begin)
    return joined([(least, greatest, in_states(table, states)) for least, greatest, states in rows])


def torn_readings(display, camera, number, begin):
    """For the presses of the span the list of tuples (least, greatest, reading)."""
    check_display(display)
    check_camera(camera)
    check_number(display, number)
    check_tick(begin)
    return readings_within(display, camera, number, begin)


def place_thresholds(display, camera, place, begin):
    """The least change with which the old digit is seen, and the greatest one with which the new one is, or None."""
    check_display(display)
    check_camera(camera)
    check_place(display, place)
    check_tick(begin)
    return thresholds_within(display, camera, place, begin)
