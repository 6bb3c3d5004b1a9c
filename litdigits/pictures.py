"""Histories, what a display shows of them, and the pictures that a camera makes of it."""

from litdigits.displays import NOW, all_lit_ahead, check_display, lit_ahead
from litdigits.errors import InvalidCamera, InvalidHistory, InvalidPicture
from litdigits.integers import check_number_from, check_number_within, check_tick, is_from, is_within
from litdigits.segments import PATTERNS, SEGMENTS, digit_of, is_pattern

MOST_PRESSES = 1200
MOST_PICTURES = 60

# With so many presses in a round it is quicker to look for the last one of them than to go through all.
CROWD = 8


def numbers_of(display):
    """How many numbers a display has."""
    many = 1
    for _ in range(display[0]):
        many = many * 10
    return many


def many_until(presses, tick, low, high):
    """How many of ascending presses are not behind a tick, if it is known to be from low to high."""
    while low < high:
        middle = (low + high) // 2
        if presses[middle] <= tick:
            low = middle + 1
        else:
            high = middle
    return low


def has_truth(presses):
    """Whether one of ascending presses is True or False."""
    # True is 1 and False is 0 to every comparison, so they are the last ones up to 1.
    many = many_until(presses, 1, 0, len(presses))
    return any([isinstance(press, bool) for press in presses[max(0, many - 2):many]])


def are_presses(value):
    """Whether a value is a list of ascending ticks that is not too long."""
    if not isinstance(value, list) or len(value) > MOST_PRESSES:
        return False
    if not value:
        return True
    last = value[0]
    if not isinstance(last, int):
        return False
    # Each call with a history goes through this loop for each press, so it calls as little as it can.
    for press in value[1:]:
        if not isinstance(press, int) or press <= last:
            return False
        last = press
    return not has_truth(value)


def is_number(display, value):
    """Whether a value is a number of a display; the display is not checked."""
    return is_within(value, 0, numbers_of(display) - 1)


def check_number(display, value):
    """Raise InvalidNumber unless a value is a number of a display."""
    check_number_within(value, 0, numbers_of(display) - 1)


def check_history(display, value):
    """Raise InvalidHistory unless a value is a history of a display."""
    if not isinstance(value, tuple) or len(value) != 2:
        raise InvalidHistory(None)
    if not is_number(display, value[0]):
        raise InvalidHistory(0)
    if not are_presses(value[1]):
        raise InvalidHistory(1)


def check_camera(value):
    """Raise InvalidCamera unless a value is a camera."""
    if not isinstance(value, tuple) or len(value) != 2:
        raise InvalidCamera(None)
    for index, item in enumerate(value):
        if not is_from(item, 1):
            raise InvalidCamera(index)


def check_patterns(value, many):
    """Raise InvalidPicture unless a value is a list of so many patterns."""
    if not isinstance(value, list) or len(value) != many:
        raise InvalidPicture(None)
    for index, item in enumerate(value):
        if not is_pattern(item):
            raise InvalidPicture(index)


def check_picture(display, value):
    """Raise InvalidPicture unless a value is a picture of a display."""
    check_patterns(value, display[0])


def is_history(display, value):
    """Whether any value is a history of a display."""
    check_display(display)
    try:
        check_history(display, value)
    except InvalidHistory:
        return False
    return True


def counted_at(display, history, tick):
    """The count at a tick; nothing is checked."""
    number, presses = history
    return (number + many_until(presses, tick, 0, len(presses))) % numbers_of(display)


def count_at(display, history, tick):
    """The count at a tick."""
    check_display(display)
    check_history(display, history)
    check_tick(tick)
    return counted_at(display, history, tick)


def shown_until(display, tick):
    """The last tick whose press is shown at a tick: that of each later one is not. Nothing is checked."""
    places, slot, _, driver = display
    if driver == NOW:
        return tick
    return tick - tick % (places * slot)


def shown_at(display, history, tick):
    """The number that is shown at a tick."""
    check_display(display)
    check_history(display, history)
    check_tick(tick)
    return counted_at(display, history, shown_until(display, tick))


def crowded_ticks(display, first, changes, last):
    """What digit_ticks returns with the driver "round", in less time if rounds have many of the changes."""
    places, slot, lit, _ = display
    cycle = places * slot
    ticks = [0] * 10
    passed = 0
    before = first
    for rounds in range(-(-changes[0] // cycle), -(-changes[-1] // cycle) + 1):
        # At the begin of a round every place has been lit for lit ticks in each round ahead of it.
        ticks[passed % 10] += rounds * lit - before
        before = rounds * lit
        passed = many_until(changes, rounds * cycle, passed, min(passed + cycle, len(changes)))
    ticks[passed % 10] += last - before
    return ticks


def digit_ticks(display, place, first, changes, last):
    """In how many ticks a place is lit with each of its digits, at most ten, beginning with the first one.

    first and last are what lit_ahead is at the begin of a picture and at its end, and changes
    are the presses, one or more, with which the place has the next digit. Nothing is checked.
    """
    places, slot, lit, driver = display
    cycle = places * slot
    if driver == NOW:
        ahead = all_lit_ahead(display, place, changes)
    elif (changes[-1] - changes[0]) * CROWD < cycle * len(changes):
        return crowded_ticks(display, first, changes, last)
    else:
        ahead = [-(-press // cycle) * lit for press in changes]
    ahead = [first] + ahead + [last]
    if len(changes) < 10:
        return [after - before for before, after in zip(ahead, ahead[1:])]
    # Behind ten digits the first one comes again, so the parts of a digit are ten parts from each other.
    return [sum(ahead[index + 1::10]) - sum(ahead[index:-1:10]) for index in range(10)]


def gathered_pattern(ticks, digit, need):
    """The pattern of a place that is lit in so many ticks with a digit, the next one and so on."""
    lit = {segment: 0 for segment in SEGMENTS}
    for index, many in enumerate(ticks):
        if many > 0:
            for segment in PATTERNS[(digit + index) % 10]:
                lit[segment] += many
    return "".join([segment for segment in SEGMENTS if lit[segment] >= need])


def picture_begun(display, camera, history, begin):
    """The picture of a history that is begun at a tick; nothing is checked."""
    exposure, need = camera
    number, presses = history
    end = begin + exposure
    before = many_until(presses, shown_until(display, begin), 0, len(presses))
    after = many_until(presses, shown_until(display, end - 1), before, len(presses))
    within = presses[before:after]
    count = number + before
    picture = []
    weight = numbers_of(display)
    for place in range(display[0]):
        weight = weight // 10
        # The digit of a place goes on only where the count comes to a multiple of its weight.
        changes = within[weight - 1 - count % weight::weight]
        first, last = lit_ahead(display, place, begin), lit_ahead(display, place, end)
        if last - first < need:
            picture.append("")
        elif not changes:
            picture.append(PATTERNS[count // weight % 10])
        else:
            ticks = digit_ticks(display, place, first, changes, last)
            picture.append(gathered_pattern(ticks, count // weight, need))
    return picture


def picture_of(display, camera, history, begin):
    """The picture of a history that is begun at a tick."""
    check_display(display)
    check_camera(camera)
    check_history(display, history)
    check_tick(begin)
    return picture_begun(display, camera, history, begin)


def digits_of(display, number):
    """The list of the digits of a number, one for each place; nothing is checked."""
    return [int(letter) for letter in str(number).zfill(display[0])]


def number_with(digits):
    """The number with these digits, None if one of them is None."""
    number = 0
    for digit in digits:
        if digit is None:
            return None
        number = number * 10 + digit
    return number


def reading_of(display, picture):
    """The number whose digits a picture shows, None if some pattern is that of no digit."""
    check_display(display)
    check_picture(display, picture)
    return number_with([digit_of(pattern) for pattern in picture])


def film_of(display, camera, history, first, period, many):
    """The list of so many pictures, each one begun a period behind the one before."""
    check_display(display)
    check_camera(camera)
    check_history(display, history)
    check_tick(first)
    check_number_from(period, 1)
    check_number_within(many, 0, MOST_PICTURES)
    return [picture_begun(display, camera, history, first + index * period) for index in range(many)]
