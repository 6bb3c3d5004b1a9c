"""What several test files need: careful calls, and answers that are worked out tick by tick."""

import copy
import itertools
import time

from litdigits.errors import LitError

PATTERNS = {
    0: "abcdef",
    1: "bc",
    2: "abdeg",
    3: "abcdg",
    4: "bcfg",
    5: "acdfg",
    6: "acdefg",
    7: "abc",
    8: "abcdefg",
    9: "abcdfg",
}

ALL_PATTERNS = ["".join(some) for many in range(8) for some in itertools.combinations("abcdefg", many)]


class Agreeable:
    """Equal to everything, and within all limits."""

    __hash__ = None

    def __eq__(self, other):
        return True

    __lt__ = __le__ = __gt__ = __ge__ = __eq__


class Contrary:
    """Refuses each comparison, also its length and its truth."""

    __hash__ = None

    def __eq__(self, other):
        raise AssertionError("was compared")

    __lt__ = __le__ = __gt__ = __ge__ = __ne__ = __eq__

    def __len__(self):
        raise AssertionError("was measured")

    __bool__ = __iter__ = __len__


# Values of many kinds that are neither integers nor strings, tuples or lists of a form that is asked.
STRANGE = [
    None, True, False, 0.0, 1.0, 3.5, float("nan"), float("inf"), 1j, b"", b"abg", {}, {1: 2}, set(), {1}, frozenset(),
    object(), object, len, lambda: 0, range(3), bytearray(b"a"), iter([1]), Ellipsis, NotImplemented, ValueError("x"),
    Agreeable(), Contrary(),
]

NO_INTEGERS = [*STRANGE, "", "1", "now", [], [1], (), (1,)]


def shape(value):
    """A value with the identity of each of its lists, tuples and dicts."""
    if isinstance(value, (list, tuple)):
        return (id(value), tuple([shape(item) for item in value]))
    return id(value)


def called(function, *values, **named):
    """The answer of a call, or its LitError; fails if the call changes an argument."""
    given = list(values) + list(named.values())
    before = [shape(value) for value in given]
    copies = [copied(value) for value in given]
    try:
        answer = function(*values, **named)
    except LitError as error:
        answer = error
    assert before == [shape(value) for value in given], f"{function.__name__} changed an argument"
    for value, earlier in zip(given, copies):
        assert same(value, earlier), f"{function.__name__} changed an argument"
    return answer


def copied(value):
    try:
        return copy.deepcopy(value)
    except TypeError:
        return value


def same(one, other):
    """Whether two values are alike; what can't be compared counts as alike."""
    if isinstance(one, (list, tuple)):
        return len(one) == len(other) and all(same(a, b) for a, b in zip(one, other))
    if isinstance(one, (int, str, bytes, dict, set)):
        return one == other
    return True


def lists_in(value):
    """All lists in an answer, itself included."""
    if not isinstance(value, (list, tuple)):
        return []
    inner = [found for item in value for found in lists_in(item)]
    return [value, *inner] if isinstance(value, list) else inner


class AtOnce:
    """Fails if what is done within it takes long (it is answered within a fraction of this)."""

    def __init__(self, seconds=10):
        self.seconds = seconds

    def __enter__(self):
        self.begin = time.process_time()

    def __exit__(self, kind, value, trace):
        taken = time.process_time() - self.begin
        if kind is None:
            assert taken < self.seconds, f"took {taken} seconds"


# The definitions of the document, word by word, for small displays.


def small_displays(most_places, most_slot):
    """All displays with few places and short slots."""
    return [
        (places, slot, lit, driver)
        for places in range(1, most_places + 1)
        for slot in range(1, most_slot + 1)
        for lit in range(1, slot + 1)
        for driver in ("now", "round")
    ]


def lit_by_turns(display, place, tick):
    """Whether a place is lit, found by going to the tick one by one."""
    places, slot, lit, _ = display
    state = -place * slot
    step = 1 if tick >= 0 else -1
    for _ in range(abs(tick)):
        state += step
    while state < 0:
        state += places * slot
    while state >= places * slot:
        state -= places * slot
    return state < lit


def count_by_turns(display, history, tick):
    number, presses = history
    for press in presses:
        if press <= tick:
            number = 0 if number == 10 ** display[0] - 1 else number + 1
    return number


def shown_by_turns(display, history, tick):
    if display[3] == "round":
        while tick % (display[0] * display[1]) != 0:
            tick -= 1
    return count_by_turns(display, history, tick)


def picture_by_turns(display, camera, history, begin):
    """The picture, gathered tick by tick."""
    exposure, need = camera
    places, slot, lit, _ = display
    gathered = [dict.fromkeys("abcdefg", 0) for _ in range(places)]
    for tick in range(begin, begin + exposure):
        turn = tick % (places * slot)
        place = turn // slot
        if turn - place * slot >= lit:
            continue
        digit = shown_by_turns(display, history, tick) // 10 ** (places - 1 - place) % 10
        for segment in PATTERNS[digit]:
            gathered[place][segment] += 1
    return ["".join(segment for segment in "abcdefg" if ticks[segment] >= need) for ticks in gathered]


def lit_count(display, place, begin, end):
    """In how many ticks from begin to end - 1 a place is lit, counted tick by tick."""
    places, slot, lit, _ = display
    return sum((tick - place * slot) % (places * slot) < lit for tick in range(begin, end))


def lit_until(display, place, begin, end):
    """For each tick from begin to end how many ticks from begin on and ahead of it are lit, counted tick by tick."""
    places, slot, lit, _ = display
    lit_ones = [(tick - place * slot) % (places * slot) < lit for tick in range(begin, end)]
    return [0, *itertools.accumulate(lit_ones)]


def clear_by_turns(display, camera):
    """For each begin from 0 to round - 1 the list of the places that are seen, counted tick by tick."""
    exposure, need = camera
    places, slot, _, _ = display
    counts = [lit_until(display, place, 0, places * slot + exposure) for place in range(places)]
    return [
        [place for place in range(places) if counts[place][begin + exposure] - counts[place][begin] >= need]
        for begin in range(places * slot)
    ]


def stretches_of(integers):
    """The stretches of ascending integers, as few as possible."""
    found = []
    for some in integers:
        if found and found[-1][1] == some - 1:
            found[-1] = (found[-1][0], some)
        else:
            found.append((some, some))
    return found


def cameras_around(display):
    """Cameras with exposures of parts of rounds and of many rounds, and needs around what can be lit."""
    places, slot, lit, _ = display
    turn = places * slot
    found = {}
    for exposure in (1, 2, turn // 2, turn - lit, turn - 1, turn, turn + 1, 2 * turn - 1, 2 * turn, 2 * turn + 1,
                     4 * turn + turn // 2, 11 * turn + 1):
        for more in range(-1, lit + 2):
            need = exposure // turn * lit + more
            if exposure > 0 and need > 0:
                found[(exposure, need)] = True
    return list(found)


def torn_by_turns(display, camera, number, begin, press):
    """The reading of a picture with a single press, from counts of the ticks ahead of the change and behind it."""
    exposure, need = camera
    places, slot, _, driver = display
    change = press
    while driver == "round" and change % (places * slot) != 0:
        change += 1
    change = min(max(change, begin), begin + exposure)
    after = 0 if number == 10 ** places - 1 else number + 1
    reading = 0
    for place in range(places):
        old, new = (some // 10 ** (places - 1 - place) % 10 for some in (number, after))
        ticks = {old: 0, new: 0}
        ticks[old] += lit_count(display, place, begin, change)
        ticks[new] += lit_count(display, place, change, begin + exposure)
        pattern = "".join(
            segment for segment in "abcdefg"
            if sum(many for digit, many in ticks.items() if segment in PATTERNS[digit]) >= need
        )
        digits = [digit for digit, known in PATTERNS.items() if known == pattern]
        if not digits:
            return None
        reading = 10 * reading + digits[0]
    return reading


def presses_around(display, camera, begin):
    """All presses that are shown from one of the ticks behind the begin and within the exposure, one by one."""
    places, slot, _, driver = display
    changes = range(begin + 1, begin + camera[0])
    if driver == "now":
        return list(changes)
    turn = places * slot
    return [tick for change in changes if change % turn == 0 for tick in range(change - turn + 1, change + 1)]


def far_apart(begin, end, gap):
    """All lists of ticks from begin to end, each one at least gap behind the one before."""
    found = [[]]
    for press in range(begin, end + 1):
        found += [[press, *later] for later in far_apart(press + gap, end, gap)]
    return found


def span_by_turns(display, camera, begin):
    """The ascending list of the presses that are shown from a tick behind the begin and within the exposure."""
    return sorted(presses_around(display, camera, begin))


def shown_from(display, press):
    """The tick from which a press is shown."""
    while display[3] == "round" and press % (display[0] * display[1]) != 0:
        press += 1
    return press


class PicturesByTurns:
    """Pictures of one display and camera, gathered tick by tick, and kept by what there is to be seen."""

    def __init__(self, display, camera):
        self.display, self.camera, self.kept = display, camera, {}

    def picture(self, history, begin):
        number, presses = history
        changes = [shown_from(self.display, press) for press in presses]
        shown = (number + sum(change <= begin for change in changes)) % 10 ** self.display[0]
        within = tuple(press for press, change in zip(presses, changes) if begin < change < begin + self.camera[0])
        key = (shown, within, begin)
        if key not in self.kept:
            self.kept[key] = picture_by_turns(self.display, self.camera, (shown, list(within)), begin)
        return list(self.kept[key])


def films_by_turns(display, camera, gap, begins):
    """All films with these begins that histories with presses far enough apart have.

    A dict: for the tuple of the pictures (as tuples) the set of the tuples of the numbers shown at the begins.
    """
    pictures = PicturesByTurns(display, camera)
    turn = display[0] * display[1] if display[3] == "round" else 1
    found = {}
    for presses in far_apart(begins[0] - turn, begins[-1] + camera[0], gap):
        for number in range(10 ** display[0]):
            history = (number, presses)
            film = tuple(tuple(pictures.picture(history, begin)) for begin in begins)
            found.setdefault(film, set()).add(tuple(shown_by_turns(display, history, begin) for begin in begins))
    return found


def told_by_ticks(display, camera, gap, film):
    """The set of the tuples of the numbers shown at the begins, of all histories that fit.

    Goes from tick to tick; of a history it keeps the numbers shown, the count and how long no press can come.
    """
    pictures = PicturesByTurns(display, camera)
    many = 10 ** display[0]
    states = {((), number, 0) for number in range(many)}
    tick = None
    for begin, picture in film:
        span = span_by_turns(display, camera, begin)
        turn = display[0] * display[1]
        first = span[0] if span else (begin + 1 if display[3] == "now" else begin // turn * turn + 1)
        # Between the pictures: in each tick there is a press, or none.
        while tick is not None and tick < first:
            pressed = {(shown, (count + 1) % many, gap - 1) for shown, count, left in states if left == 0}
            states = {(shown, count, max(0, left - 1)) for shown, count, left in states} | pressed
            tick += 1
        tick = first + len(span)
        later = set()
        for shown, count, left in states:
            if pictures.picture((count, []), begin) == picture:
                later.add(((*shown, count), count, max(0, left - len(span))))
            for index, press in enumerate(span):
                if index >= left and pictures.picture((count, [press]), begin) == picture:
                    wait = max(0, gap - (len(span) - index))
                    later.add(((*shown, count), (count + 1) % many, wait))
        states = later
    return {shown for shown, _, _ in states}
