"""Displays: tuples (places, slot, lit, driver), and which place is lit in which tick."""

from litdigits.errors import InvalidDisplay, InvalidPlace
from litdigits.integers import check_number_from, check_tick, is_from, is_within

MOST_PLACES = 8
NOW = "now"
ROUND = "round"


def check_display(value):
    """Raise InvalidDisplay unless a value is a display."""
    if not isinstance(value, tuple) or len(value) != 4:
        raise InvalidDisplay(None)
    places, slot, lit, driver = value
    if not is_within(places, 1, MOST_PLACES):
        raise InvalidDisplay(0)
    if not is_from(slot, 1):
        raise InvalidDisplay(1)
    if not is_within(lit, 1, slot):
        raise InvalidDisplay(2)
    if not isinstance(driver, str) or driver not in (NOW, ROUND):
        raise InvalidDisplay(3)


def is_place(display, value):
    """Whether a value is a place of a display; the display is not checked."""
    return is_within(value, 0, display[0] - 1)


def check_place(display, value):
    """Raise InvalidPlace unless a value is a place of a display."""
    if not is_place(display, value):
        raise InvalidPlace("a place is an integer from 0 on that is less than the number of places")


def is_display(value):
    """Whether any value is a display."""
    try:
        check_display(value)
    except InvalidDisplay:
        return False
    return True


def round_of(display):
    """The round of a display: in how many ticks each place has its turn."""
    check_display(display)
    return display[0] * display[1]


def is_lit(display, place, tick):
    """Whether a place is lit in a tick."""
    check_display(display)
    check_place(display, place)
    check_tick(tick)
    places, slot, lit, _ = display
    return (tick - place * slot) % (places * slot) < lit


def place_at(display, tick):
    """The place that is lit in a tick, None if none is; nothing is checked."""
    places, slot, lit, _ = display
    place, past = divmod(tick % (places * slot), slot)
    return place if past < lit else None


def lit_place(display, tick):
    """The place that is lit in a tick, None if none is."""
    check_display(display)
    check_tick(tick)
    return place_at(display, tick)


def lit_ahead(display, place, tick):
    """In how many ticks a place is lit from its turn in the round of tick 0 to tick - 1.

    It is less than 0 for ticks ahead of this turn, so that the difference of the values
    at two ticks is always the number of lit ticks between them. Nothing is checked.
    """
    places, slot, lit, _ = display
    turns, past = divmod(tick - place * slot, places * slot)
    return turns * lit + min(past, lit)


def all_lit_ahead(display, place, ticks):
    """The list of what lit_ahead is at each of several ticks; nothing is checked."""
    places, slot, lit, _ = display
    start, cycle = place * slot, places * slot
    # Written out once more, and without min, because there can be a thousand ticks for each place of each picture.
    return [
        turns * lit + (past if past < lit else lit)
        for tick in ticks for turns, past in [divmod(tick - start, cycle)]
    ]


def lit_between(display, place, begin, end):
    """In how many ticks from begin to end - 1 a place is lit; end is at least begin. Nothing is checked."""
    return lit_ahead(display, place, end) - lit_ahead(display, place, begin)


def lit_tick(display, place, ahead):
    """The tick in which a place is lit and ahead of which lit_ahead counts so many; nothing is checked."""
    places, slot, lit, _ = display
    turns, past = divmod(ahead, lit)
    return (turns * places + place) * slot + past


def lit_ticks(display, place, begin, end):
    """In how many ticks from begin to end - 1 a place is lit."""
    check_display(display)
    check_place(display, place)
    check_tick(begin)
    check_tick(end)
    return lit_between(display, place, begin, end) if begin < end else 0


def nth_lit(display, place, tick, index):
    """Of the ticks from tick on in which a place is lit, the one with an index."""
    check_display(display)
    check_place(display, place)
    check_tick(tick)
    check_number_from(index, 0)
    return lit_tick(display, place, lit_ahead(display, place, tick) + index)
