"""Which places a camera sees, and which cameras see all places, whenever they open.

Of every exposure the whole rounds count by themselves: in each of them every place is lit
for lit ticks. What is left, less than a round, is the rest; it decides.
"""

from litdigits.displays import check_display, check_place, is_place, lit_between
from litdigits.integers import check_number_from, check_tick, is_within
from litdigits.pictures import check_camera


def wrapped(least, greatest, modulus):
    """The stretches, from 0 to modulus - 1, of what the integers from least to greatest are modulo it.

    There is at least one of these integers.
    """
    if greatest - least >= modulus - 1:
        return [(0, modulus - 1)]
    low, high = least % modulus, greatest % modulus
    if low <= high:
        return [(low, high)]
    return [(0, high), (low, modulus - 1)]


def common_stretches(one, other):
    """The stretches of all integers that are in stretches of both lists."""
    found = []
    for least, greatest in one:
        for low, high in other:
            if least <= high and low <= greatest:
                found.append((max(least, low), min(greatest, high)))
    return found


def left_out(stretches, modulus):
    """The stretches of all integers from 0 to modulus - 1 that are in none of these stretches."""
    found = []
    at = 0
    for least, greatest in stretches:
        if at < least:
            found.append((at, least - 1))
        at = greatest + 1
    if at < modulus:
        found.append((at, modulus - 1))
    return found


def is_seen(display, camera, place, begin):
    """Whether a place is seen in a picture begun at a tick; nothing is checked."""
    exposure, need = camera
    return lit_between(display, place, begin, begin + exposure) >= need


def seen_stretches(display, camera, place):
    """The stretches of the begins from 0 to round - 1 for which a place is seen; nothing is checked."""
    places, slot, lit, _ = display
    exposure, need = camera
    cycle = places * slot
    rounds, rest = divmod(exposure, cycle)
    missing = need - rounds * lit
    if missing <= max(0, rest + lit - cycle):
        return [(0, cycle - 1)]
    if missing > min(rest, lit):
        return []
    # The rest must not end before so many lit ticks are over, nor begin when fewer are left.
    start = place * slot
    return wrapped(start + missing - rest, start + lit - missing, cycle)


def clear_stretches(display, camera):
    """The stretches of the begins from 0 to round - 1 for which all places are seen; nothing is checked."""
    found = seen_stretches(display, camera, 0)
    for place in range(1, display[0]):
        found = common_stretches(found, seen_stretches(display, camera, place))
    return found


def fewest_lit(display, exposure):
    """In how many ticks of an exposure a place is lit at least, whenever it begins; nothing is checked."""
    places, slot, lit, _ = display
    rounds, rest = divmod(exposure, places * slot)
    return rounds * lit + max(0, rest + lit - places * slot)


def is_always_clear(display, camera):
    """Whether a camera is clear for a display; nothing is checked."""
    return camera[1] <= fewest_lit(display, camera[0])


def seen_places(display, camera, begin):
    """The ascending list of the places that are seen in a picture begun at a tick."""
    check_display(display)
    check_camera(camera)
    check_tick(begin)
    return [place for place in range(display[0]) if is_seen(display, camera, place, begin)]


def is_clear(display, camera):
    """Whether in every picture, whatever its begin is, all places are seen."""
    check_display(display)
    check_camera(camera)
    return is_always_clear(display, camera)


def seen_begins(display, camera, place):
    """The list of stretches of those begins from 0 to round - 1 for which a place is seen."""
    check_display(display)
    check_camera(camera)
    check_place(display, place)
    return seen_stretches(display, camera, place)


def clear_begins(display, camera):
    """The list of stretches of those begins from 0 to round - 1 for which all places are seen."""
    check_display(display)
    check_camera(camera)
    return clear_stretches(display, camera)


def dark_paper(display, camera):
    """A tuple (begin, place) such that the place is not seen in a picture with this begin, None if there is none."""
    check_display(display)
    check_camera(camera)
    if is_always_clear(display, camera):
        return None
    # Place 0 has the fewest lit ticks ahead just when its own lit ticks are over.
    places, slot, lit, _ = display
    return (lit % (places * slot), 0)


def shows_dark(display, camera, value):
    """Whether any value is a tuple that dark_paper could return."""
    check_display(display)
    check_camera(camera)
    if not isinstance(value, tuple) or len(value) != 2:
        return False
    begin, place = value
    if not is_within(begin, 0, display[0] * display[1] - 1) or not is_place(display, place):
        return False
    return not is_seen(display, camera, place, begin)


def whole_rounds(display, need):
    """How many whole rounds leave some of the needed lit ticks open, at least one, and how many."""
    rounds, last = divmod(need - 1, display[2])
    return (rounds, last + 1)


def least_exposure(display, need):
    """The least exposure for which a camera with this need is clear."""
    check_display(display)
    check_number_from(need, 1)
    places, slot, lit, _ = display
    rounds, missing = whole_rounds(display, need)
    # At the worst the exposure begins with all ticks of a round in which the place is not lit.
    return (rounds + 1) * places * slot - lit + missing


def greatest_need(display, exposure):
    """The greatest need for which a camera with this exposure is clear, 0 if there is none."""
    check_display(display)
    check_number_from(exposure, 1)
    return fewest_lit(display, exposure)


def least_lit(display, camera):
    """The least lit from 1 to slot for which the camera is clear, None if there is none."""
    check_display(display)
    check_camera(camera)
    places, slot, _, _ = display
    exposure, need = camera
    rounds, rest = divmod(exposure, places * slot)
    # The fewest lit ticks are the greater one of rounds * lit and (rounds + 1) * lit - dark.
    dark = places * slot - rest
    found = -(-(need + dark) // (rounds + 1))
    if rounds > 0:
        found = min(found, -(-need // rounds))
    return found if found <= slot else None


def greatest_slot(display, camera):
    """The greatest slot, from lit on, for which the camera is clear, None if there is none."""
    check_display(display)
    check_camera(camera)
    places, _, lit, _ = display
    exposure, need = camera
    rounds, missing = whole_rounds(display, need)
    # The least exposure, (rounds + 1) * places * slot - lit + missing, must not be greater than this one.
    slot = (exposure + lit - missing) // ((rounds + 1) * places)
    return slot if slot >= lit else None
