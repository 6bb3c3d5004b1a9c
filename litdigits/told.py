"""What a film tells: the numbers that were shown, and a history that has all its pictures."""

from litdigits.errors import Impossible, InvalidHistory
from litdigits.films import check_all, passages, scenes_of
from litdigits.integers import check_number_within
from litdigits.pictures import check_history, numbers_of, picture_begun


def mirrored(scenes, many):
    """The pictures as they would be if time went the other way, with numbers and ticks below 0."""
    return [
        (
            -greatest,
            -least,
            [-number % many for number in steady],
            [(-after % many, -number % many, (-high, -low)) for number, after, (low, high) in pressed],
        )
        for least, greatest, steady, pressed in reversed(scenes)
    ]


def shown_numbers(display, camera, gap, film):
    """For each picture the ascending list of the numbers at its begin, of all histories that fit."""
    many = numbers_of(display)
    scenes = scenes_of(display, camera, film)
    forth = passages(scenes, gap, many)
    back = passages(mirrored(scenes, many), gap, many)
    found = []
    for (ahead, _), (_, behind) in zip(forth, back[::-1]):
        # The other way round, the earliest last press is the latest next one.
        found.append([
            number for number in sorted(ahead)
            if -number % many in behind and ahead[number] + gap <= -behind[-number % many]
        ])
    return found


def fitting_history(scenes, gap, many):
    """A history that has all these pictures, None if there is none."""
    found = passages(scenes, gap, many)
    if not found:
        return (0, [])
    if not found[-1][1]:
        return None
    number = min(found[-1][1])
    last = found[-1][1][number]
    presses = []
    for index in range(len(scenes) - 1, -1, -1):
        ahead = found[index][0]
        if last >= scenes[index][0]:
            presses.append(last)
            number = (number - 1) % many
            last = ahead[number]
        # Ahead of the first picture no press is needed: any number can have been there.
        before = found[index - 1][1] if index > 0 else ahead
        while number not in before:
            presses.append(last)
            number = (number - 1) % many
            last = before.get(number, last - gap)
    return (number, presses[::-1])


def numbers_at(display, camera, gap, film, index):
    """The ascending list of the numbers that are shown at the begin of a picture by the histories that fit a film."""
    check_all(display, camera, gap, film)
    check_number_within(index, 0, len(film) - 1)
    found = shown_numbers(display, camera, gap, film)[index]
    if not found:
        raise Impossible("no history fits the film")
    return found


def sure_numbers(display, camera, gap, film):
    """For each picture of a film the number that is shown at its begin, None if there are several."""
    check_all(display, camera, gap, film)
    found = shown_numbers(display, camera, gap, film)
    if not all(found):
        raise Impossible("no history fits the film")
    return [numbers[0] if len(numbers) == 1 else None for numbers in found]


def history_paper(display, camera, gap, film):
    """A history that fits a film, with no press but those from its first picture to its last one, or None."""
    check_all(display, camera, gap, film)
    return fitting_history(scenes_of(display, camera, film), gap, numbers_of(display))


def shows_history(display, camera, gap, film, value):
    """Whether any value is a history of a display that fits a film."""
    check_all(display, camera, gap, film)
    try:
        check_history(display, value)
    except InvalidHistory:
        return False
    presses = value[1]
    if any([later - earlier < gap for earlier, later in zip(presses, presses[1:])]):
        return False
    return all([picture_begun(display, camera, value, begin) == picture for begin, picture in film])
