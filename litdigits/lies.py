"""Pictures that lie: torn pictures that show a number that never was.

Whether there is one does not depend on how long a round is. What is shown changes at some tick, and if
the begin of the picture goes on from far ahead of this tick, the old digit of each place is seen up to
some begin, and the new one from some begin on. So the begins fall into few rows, in each of which all
places keep their states, and only in the first and the last row all of them are of one number.
"""

from litdigits.clear import clear_stretches, common_stretches, seen_stretches
from litdigits.displays import NOW, check_display, lit_ahead, lit_tick
from litdigits.integers import check_tick, is_integer
from litdigits.pictures import check_camera, check_number, number_with, numbers_of, picture_begun
from litdigits.segments import digit_of
from litdigits.torn import BOTH, NEITHER, NEW, OLD, readings_within

# Which digits lie that are ahead of the digits 9 at the end of a number, and become the next ones. The row is
# what these 9 show, of which none is in the state NEITHER: nothing if there is none, the old digits, the new
# ones, or a mixture; that is the union of their states, as bits. The column is the state of the digit itself.
LIARS = (
    ((), (), (), (3, 4, 6)),
    ((0, 8), (), (0, 1, 2, 3, 4, 5, 6, 7, 8), (3, 4, 5, 6, 7)),
    ((5, 7), (0, 1, 2, 3, 4, 5, 6, 7, 8), (), (0, 3, 4, 6, 8)),
    ((0, 5, 7, 8), (0, 1, 2, 3, 4, 5, 6, 7, 8), (0, 1, 2, 3, 4, 5, 6, 7, 8), (0, 3, 4, 5, 6, 7, 8)),
)


def is_lie(display, number, reading):
    """Whether a reading is that of a lie of a number; nothing is checked."""
    return reading is not None and reading != number and reading != (number + 1) % numbers_of(display)


def kind_within(display, number):
    """The kind of a number; nothing is checked."""
    nines = 0
    while number % 10 == 9:
        nines += 1
        number = number // 10
    return (nines, number % 10 if nines < display[0] else 9)


def first_in(stretches, modulus, low, high):
    """An integer from low to high that is in one of the stretches, modulo the modulus; None if there is none."""
    for least, greatest in stretches:
        past = (low - least) % modulus
        if low <= high and past <= greatest - least:
            return low
        if low + modulus - past <= high:
            return low + modulus - past
    return None


def begin_turns(display, camera):
    """At which begins the states of the places change, if what is shown changes at tick 0.

    Ascending tuples (begin, place, more): from this begin on the state of the place is greater by so much.
    Ahead of all of them it is OLD. Nothing is checked.
    """
    exposure, need = camera
    turns = []
    for place in range(display[0]):
        turns.append((lit_tick(display, place, -need) + 1, place, -OLD))
        turns.append((lit_tick(display, place, need - 1) + 1 - exposure, place, NEW))
    return sorted(turns)


def begin_rows(turns, states, low, high):
    """The begins from low to high in rows (least, greatest, states); these are the states ahead of all turns."""
    rows = []
    states = list(states)
    for begin, place, more in turns:
        if begin > high:
            break
        if begin > low:
            rows.append((low, begin - 1, tuple(states)))
            low = begin
        states[place] = states[place] + more
    return [*rows, (low, high, tuple(states))]


def torn_begins(display, camera):
    """Rows (least, greatest, states, stretches) of begins for which all places can have these states.

    The begins are those from least to greatest that are in one of the stretches, modulo the round. All places
    are seen then. With the driver "now" the places can be counted from any one on, as they are lit by turns.
    Rows that do not let more numbers lie than others do are left out. Nothing is checked.
    """
    exposure, need = camera
    clear = clear_stretches(display, camera)
    if not clear:
        return
    # What is shown changes at tick 0, where a slot begins and all slots ahead of it are over.
    turns = begin_turns(display, camera)
    rows = begin_rows(turns, [OLD] * display[0], turns[0][0], turns[-1][0] - 1)
    for least, greatest, states in rows:
        yield (least, greatest, states, clear)
    if display[3] == NOW:
        # It changes within the slot of place 0, and both digits of this place are seen. If only one of them or
        # neither is, nothing more can lie than with a change at the begin or at the end of the slot.
        both = common_stretches(clear, seen_stretches(display, (exposure, 2 * need), 0))
        low, high = lit_tick(display, 0, need) + 1 - exposure, lit_tick(display, 0, display[2] - need)
        others = [turn for turn in turns if turn[1] > 0]
        rows = begin_rows(others, [BOTH] + [OLD] * (display[0] - 1), low, high) if both else []
        for least, greatest, states in rows:
            yield (least, greatest, states, both)


def last_places(display):
    """The list of the places of torn_begins that can be the last one of the display."""
    return list(range(display[0])) if display[3] == NOW else [display[0] - 1]


def lies_with(states, last, nines, digit):
    """Whether a number of this kind lies if the places, up to the last one, have these states."""
    union = 0
    for place in range(last, last - nines, -1):
        if states[place] == NEITHER:
            return False
        union = union | states[place]
    if nines == len(states):
        return union == BOTH
    return digit in LIARS[union][states[last - nines]]


def first_lie(display, camera, number):
    """A tuple (begin, press), begin from 0 to round - 1, of a lie of a number, None if there is none.

    Nothing is checked.
    """
    places, slot, _, _ = display
    nines, digit = kind_within(display, number)
    if nines == 0 and digit not in LIARS[0][BOTH]:
        return None
    ends = last_places(display)
    for least, greatest, states, stretches in torn_begins(display, camera):
        for last in ends:
            if lies_with(states, last, nines, digit):
                begin = first_in(stretches, places * slot, least, greatest)
                if begin is not None:
                    # The old digit of place 0 is seen from this change on, or with a change at tick 0 already.
                    change = max(0, camera[1] + lit_ahead(display, 0, begin)) if states[0] == BOTH else 0
                    found = (begin + (places - 1 - last) * slot) % (places * slot)
                    return (found, found - begin + change)
    return None


def add_pairs(found, states, last):
    """Put into found, at the index of each number of 9 at the end, what these 9 show and the state ahead of them."""
    union = 0
    for nines in range(len(states)):
        state = states[last - nines]
        found[nines][(union, state)] = True
        if state == NEITHER:
            return
        union = union | state
    found[len(states)][(union, OLD)] = True


def pairs_by_nines(display, camera):
    """For each number of 9 at the end a dict of the pairs for LIARS that there are; nothing is checked.

    If all digits are 9, the second item of the pairs means nothing.
    """
    found = [{} for _ in range(display[0] + 1)]
    ends = last_places(display)
    passed = {}
    for least, greatest, states, stretches in torn_begins(display, camera):
        if states not in passed and first_in(stretches, display[0] * display[1], least, greatest) is not None:
            passed[states] = True
            for last in ends:
                add_pairs(found, states, last)
    return found


def kinds_within(display, camera):
    """The ascending list of the kinds of all numbers that can lie; nothing is checked."""
    found = pairs_by_nines(display, camera)
    kinds = []
    for nines in range(display[0]):
        digits = {digit: True for union, state in found[nines] for digit in LIARS[union][state]}
        kinds += [(nines, digit) for digit in sorted(digits)]
    return [*kinds, (display[0], 9)] if (BOTH, OLD) in found[display[0]] else kinds


def kind_of(display, number):
    """The kind of a number: how many digits 9 are at its end, and the digit ahead of them, 9 if there is none."""
    check_display(display)
    check_number(display, number)
    return kind_within(display, number)


def lies_at(display, camera, number, begin):
    """The tuples of torn_readings whose pictures are lies."""
    check_display(display)
    check_camera(camera)
    check_number(display, number)
    check_tick(begin)
    rows = readings_within(display, camera, number, begin)
    return [row for row in rows if is_lie(display, number, row[2])]


def can_lie(display, camera, number):
    """Whether there is a lie of a number with any begin and press."""
    check_display(display)
    check_camera(camera)
    check_number(display, number)
    return first_lie(display, camera, number) is not None


def lie_paper(display, camera, number):
    """A tuple (begin, press), begin from 0 to round - 1, of a lie of a number, None if there is none."""
    check_display(display)
    check_camera(camera)
    check_number(display, number)
    return first_lie(display, camera, number)


def shows_lie(display, camera, number, value):
    """Whether any value is a tuple (begin, press) of two integers whose picture is a lie of a number."""
    check_display(display)
    check_camera(camera)
    check_number(display, number)
    if not isinstance(value, tuple) or len(value) != 2:
        return False
    begin, press = value
    if not is_integer(begin) or not is_integer(press):
        return False
    picture = picture_begun(display, camera, (number, [press]), begin)
    return is_lie(display, number, number_with([digit_of(pattern) for pattern in picture]))


def lying_kinds(display, camera):
    """The ascending list of the kinds of all numbers that can lie."""
    check_display(display)
    check_camera(camera)
    return kinds_within(display, camera)


def is_truthful(display, camera):
    """Whether no number can lie."""
    check_display(display)
    check_camera(camera)
    return not kinds_within(display, camera)
