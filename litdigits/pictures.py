"""Histories, what a display shows of them, and the pictures that a camera makes of it."""

from litdigits.displays import NOW, check_display, lit_ahead
from litdigits.errors import InvalidCamera, InvalidHistory, InvalidPicture
from litdigits.integers import check_number_from, check_number_within, check_tick, is_from, is_integer, is_within
from litdigits.segments import PATTERNS, SEGMENTS, digit_of, is_pattern

MOST_PRESSES = 1200
MOST_PICTURES = 60


def numbers_of(display):
    """How many numbers a display has."""
    many = 1
    for _ in range(display[0]):
        many = many * 10
    return many


def are_presses(value):
    """Whether a value is a list of ascending ticks that is not too long."""
    if not isinstance(value, list) or len(value) > MOST_PRESSES:
        return False
    if not all([is_integer(press) for press in value]):
        return False
    return all([one < other for one, other in zip(value, value[1:])])


def is_number(display, value):
    """Whether a value is a number of a display; the display is not checked."""
    return is_within(value, 0, numbers_of(display) - 1)


def check_number(display, value):
    """Raise InvalidNumber unless a value is a number of a display."""
    check_number_within(value, 0, numbers_of(display) - 1)


def check_history(display, value):
    """Raise InvalidHistory unless a value is a history of a display."""
    if not isinstance(value, tuple) or len(value) != 2:
        raise InvalidHistory(None)
    if not is_number(display, value[0]):
        raise InvalidHistory(0)
    if not are_presses(value[1]):
        raise InvalidHistory(1)


def check_camera(value):
    """Raise InvalidCamera unless a value is a camera."""
    if not isinstance(value, tuple) or len(value) != 2:
        raise InvalidCamera(None)
    for index, item in enumerate(value):
        if not is_from(item, 1):
            raise InvalidCamera(index)


def check_picture(display, value):
    """Raise InvalidPicture unless a value is a picture of a display."""
    if not isinstance(value, list) or len(value) != display[0]:
        raise InvalidPicture(None)
    for index, item in enumerate(value):
        if not is_pattern(item):
            raise InvalidPicture(index)


def is_history(display, value):
    """Whether any value is a history of a display."""
    check_display(display)
    try:
        check_history(display, value)
    except InvalidHistory:
        return False
    return True


def counted_at(display, history, tick):
    """The count at a tick; nothing is checked."""
    number, presses = history
    return (number + len([press for press in presses if press <= tick])) % numbers_of(display)


def count_at(display, history, tick):
    """The count at a tick."""
    check_display(display)
    check_history(display, history)
    check_tick(tick)
    return counted_at(display, history, tick)


def shown_until(display, tick):
    """The last tick whose press is shown at a tick: that of each later one is not. Nothing is checked."""
    places, slot, _, driver = display
    if driver == NOW:
        return tick
    return tick - tick % (places * slot)


def shown_at(display, history, tick):
    """The number that is shown at a tick."""
    check_display(display)
    check_history(display, history)
    check_tick(tick)
    return counted_at(display, history, shown_until(display, tick))


def shown_from(display, press):
    """The first tick at which a press is shown; nothing is checked."""
    places, slot, _, driver = display
    if driver == NOW:
        return press
    return press + -press % (places * slot)


def steady_parts(display, history, begin, end):
    """What is shown from begin to end - 1, as a list of tuples (end, digits).

    Each part begins where the one before ends; its digits are those of the places.
    Nothing is checked.
    """
    parts = []
    at = begin
    number, presses = history
    for press in presses:
        start = shown_from(display, press)
        if start >= end:
            break
        # Several presses can be shown from one tick on; they make no part of their own.
        if start > at:
            parts.append((start, digits_of(display, number)))
            at = start
        number += 1
    parts.append((end, digits_of(display, number)))
    return parts


def digits_of(display, number):
    """The list of the digits of a number, modulo the numbers of the display, for each place."""
    text = str(number % numbers_of(display)).zfill(display[0])
    return [int(letter) for letter in text]


def digit_ticks(display, place, begin, parts):
    """In how many ticks a place is lit with each digit, as a list with ten items."""
    ticks = [0] * len(PATTERNS)
    before = lit_ahead(display, place, begin)
    for end, digits in parts:
        after = lit_ahead(display, place, end)
        ticks[digits[place]] += after - before
        before = after
    return ticks


def gathered_pattern(ticks, need):
    """The pattern of a place that is lit with each digit in so many ticks."""
    found = []
    for segment in SEGMENTS:
        lit = sum([many for many, pattern in zip(ticks, PATTERNS) if segment in pattern])
        if lit >= need:
            found.append(segment)
    return "".join(found)


def picture_begun(display, camera, history, begin):
    """The picture of a history that is begun at a tick; nothing is checked."""
    exposure, need = camera
    parts = steady_parts(display, history, begin, begin + exposure)
    return [gathered_pattern(digit_ticks(display, place, begin, parts), need) for place in range(display[0])]


def picture_of(display, camera, history, begin):
    """The picture of a history that is begun at a tick."""
    check_display(display)
    check_camera(camera)
    check_history(display, history)
    check_tick(begin)
    return picture_begun(display, camera, history, begin)


def number_with(digits):
    """The number with these digits, None if one of them is None."""
    number = 0
    for digit in digits:
        if digit is None:
            return None
        number = number * 10 + digit
    return number


def reading_of(display, picture):
    """The number whose digits a picture shows, None if some pattern is that of no digit."""
    check_display(display)
    check_picture(display, picture)
    return number_with([digit_of(pattern) for pattern in picture])


def film_of(display, camera, history, first, period, many):
    """The list of so many pictures, each one begun a period behind the one before."""
    check_display(display)
    check_camera(camera)
    check_history(display, history)
    check_tick(first)
    check_number_from(period, 1)
    check_number_within(many, 0, MOST_PICTURES)
    return [picture_begun(display, camera, history, first + index * period) for index in range(many)]
