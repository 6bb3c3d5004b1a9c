"""One picture explained: from which numbers it can come, steady ones and ones that are pressed once."""

from litdigits.clear import is_seen
from litdigits.displays import check_display
from litdigits.integers import check_tick
from litdigits.pictures import check_camera, check_picture
from litdigits.segments import PATTERNS
from litdigits.torn import TORN_PATTERNS, torn_rows


def steady_digits(display, camera, begin, picture):
    """For each place the digits that have its pattern if they stay as they are; nothing is checked."""
    found = []
    for place, pattern in enumerate(picture):
        if is_seen(display, camera, place, begin):
            found.append([digit for digit, known in enumerate(PATTERNS) if known == pattern])
        else:
            # A dark place could have any digit.
            found.append(list(range(10)) if pattern == "" else [])
    return found


def steady_heads(display, camera, begin, picture):
    """For each number of places from none on the numbers that so many first places can show steadily."""
    heads = [[0]]
    for digits in steady_digits(display, camera, begin, picture):
        before = heads[-1]
        heads.append([number * 10 + digit for number in before for digit in digits])
    return heads


def pressed_numbers(picture, heads, states):
    """The numbers that show a picture if they are pressed once and the places are in these states."""
    found = []
    weight = 1
    for place in range(len(picture) - 1, -1, -1):
        # All places behind this one go from 9 to 0, so its own digit goes on as well.
        pattern, state = picture[place], states[place]
        digits = [digit for digit in range(10) if TORN_PATTERNS[digit][state] == pattern]
        for digit in digits:
            if digit < 9:
                found += [(number * 10 + digit + 1) * weight - 1 for number in heads[place]]
        if 9 not in digits:
            return found
        weight = weight * 10
    return [*found, weight - 1]


def with_stretch(stretches, least, greatest):
    """A list of stretches and one more, which is behind them; None in front stands for no press."""
    if stretches and stretches[-1] is not None and stretches[-1][1] == least - 1:
        return [*stretches[:-1], (stretches[-1][0], greatest)]
    return [*stretches, (least, greatest)]


def ways_by_number(display, camera, begin, picture):
    """A dict of all numbers that explain a picture: of each one the list of what explanations_of tells of it.

    Nothing is checked.
    """
    heads = steady_heads(display, camera, begin, picture)
    found = {number: [None] for number in heads[-1]}
    for least, greatest, states in torn_rows(display, camera, begin):
        for number in pressed_numbers(picture, heads, states):
            found[number] = with_stretch(found.get(number, []), least, greatest)
    return found


def explanations_of(display, camera, begin, picture):
    """For each number that explains a picture the tuples (number, None) and (number, stretch of presses)."""
    check_display(display)
    check_camera(camera)
    check_tick(begin)
    check_picture(display, picture)
    found = ways_by_number(display, camera, begin, picture)
    return [(number, way) for number in sorted(found) for way in found[number]]


def numbers_behind(display, camera, begin, picture):
    """The ascending list of the numbers that explain a picture."""
    check_display(display)
    check_camera(camera)
    check_tick(begin)
    check_picture(display, picture)
    return sorted(ways_by_number(display, camera, begin, picture))


def is_explained(display, camera, begin, picture):
    """Whether any number explains a picture."""
    check_display(display)
    check_camera(camera)
    check_tick(begin)
    check_picture(display, picture)
    return len(ways_by_number(display, camera, begin, picture)) > 0
