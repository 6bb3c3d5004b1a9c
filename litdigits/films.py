"""Films: some pictures of one display, one after the other, and whether a history fits all of them.

Two presses are so far apart that a picture is torn by one press at most. For each number only the
earliest last press counts that leads to it: whatever can follow a later one can follow it, too.
"""

from litdigits.displays import ROUND, check_display
from litdigits.errors import InvalidFilm, InvalidPicture
from litdigits.explained import ways_by_number
from litdigits.integers import check_number_from, is_integer
from litdigits.pictures import check_camera, check_picture, numbers_of
from litdigits.torn import span_within

MOST_IN_FILM = 12


def check_gap(display, camera, value):
    """Raise InvalidNumber unless a value is a gap; display and camera are not checked."""
    places, slot, _, driver = display
    check_number_from(value, camera[0] + places * slot if driver == ROUND else camera[0])


def is_frame(display, value):
    """Whether a value is a tuple of a tick and a picture of a display; the display is not checked."""
    if not isinstance(value, tuple) or len(value) != 2 or not is_integer(value[0]):
        return False
    try:
        check_picture(display, value[1])
    except InvalidPicture:
        return False
    return True


def check_film(display, camera, value):
    """Raise InvalidFilm unless a value is a film; display and camera are not checked."""
    if not isinstance(value, list) or len(value) > MOST_IN_FILM:
        raise InvalidFilm(None)
    for index, item in enumerate(value):
        if not is_frame(display, item):
            raise InvalidFilm(index)
        if index > 0 and item[0] < value[index - 1][0] + camera[0]:
            raise InvalidFilm(index)


def check_all(display, camera, gap, film):
    """Raise the error of the first of these arguments that is wrong."""
    check_display(display)
    check_camera(camera)
    check_gap(display, camera, gap)
    check_film(display, camera, film)


def scenes_of(display, camera, film):
    """For each picture (least, greatest, steady, pressed): its span, and what explains it.

    steady has the numbers that show it without a press within the span, pressed has tuples
    (number, next number, stretch) for those with one. Nothing is checked.
    """
    many = numbers_of(display)
    found = []
    for begin, picture in film:
        least, greatest = span_within(display, camera, begin)
        ways = ways_by_number(display, camera, begin, picture)
        steady = [number for number in ways if ways[number][0] is None]
        pressed = [
            (number, (number + 1) % many, way) for number in ways for way in ways[number] if way is not None
        ]
        found.append((least, greatest, steady, pressed))
    return found


def waited(lasts, begin, end, gap, many):
    """The earliest last presses by number, once more presses from begin to end can have come behind these ones."""
    if begin > end or len(lasts) == many:
        return lasts
    found = dict(lasts)
    for number, last in lasts.items():
        press = max(begin, last + gap)
        after = (number + 1) % many
        # Whoever comes to a number that needs no press goes on from there: that is earlier.
        while press <= end and after not in lasts:
            found[after] = press
            press = press + gap
            after = (after + 1) % many
    return found


def passed(lasts, scene, gap):
    """The earliest last presses by number behind a picture, if those ahead of it are these."""
    _, _, steady, pressed = scene
    found = {number: lasts[number] for number in steady if number in lasts}
    for number, after, (low, high) in pressed:
        if number in lasts:
            press = max(low, lasts[number] + gap)
            if press <= high and (after not in found or press < found[after]):
                found[after] = press
    return found


def fresh(scenes, gap, many):
    """The last presses of all numbers ahead of the first picture, which hinder no press in it."""
    return {number: scenes[0][0] - gap for number in range(many)}


def passages(scenes, gap, many):
    """For each picture the earliest last presses by number ahead of it and behind it, as tuples of two dicts."""
    if not scenes:
        return []
    found = []
    lasts = fresh(scenes, gap, many)
    begin = scenes[0][0]
    for scene in scenes:
        ahead = waited(lasts, begin, scene[0] - 1, gap, many)
        lasts = passed(ahead, scene, gap)
        found.append((ahead, lasts))
        begin = scene[1] + 1
    return found


def film_fits(display, camera, gap, film):
    """Whether some history, with presses a gap apart, has all pictures of a film."""
    return first_misfit(display, camera, gap, film) is None


def first_misfit(display, camera, gap, film):
    """The index of the first picture with which no history fits any more, None if there is none."""
    check_all(display, camera, gap, film)
    found = passages(scenes_of(display, camera, film), gap, numbers_of(display))
    for index, (_, behind) in enumerate(found):
        if not behind:
            return index
    return None
