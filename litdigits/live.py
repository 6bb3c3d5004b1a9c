"""A live panel: a display that is told the presses one by one."""

from litdigits.displays import check_display, place_at
from litdigits.errors import InvalidTick, NothingToUndo
from litdigits.integers import check_tick
from litdigits.pictures import (
    check_camera, check_number, counted_at, digits_of, numbers_of, picture_begun, shown_until,
)
from litdigits.segments import PATTERNS

PRESS = "press"
WAIT = "wait"


class Panel:
    """A display with a number at the beginning, and the calls that have been made so far."""

    def __init__(self, display, number):
        check_display(display)
        check_number(display, number)
        places, slot, lit, driver = display
        self._display = (places, slot, lit, driver)
        self._number = number
        self._log = []
        self._presses = []

    def __len__(self):
        return len(self._log)

    def __eq__(self, other):
        return (
            isinstance(other, Panel) and self._display == other._display
            and self._number == other._number and self._log == other._log
        )

    @property
    def tick(self):
        """The present tick, None if there is none."""
        return self._log[-1][1] if self._log else None

    @property
    def counted(self):
        """The count at the present tick."""
        # No press is behind the present tick.
        return (self._number + len(self._presses)) % numbers_of(self._display)

    @property
    def shown(self):
        """The number that is shown at the present tick."""
        if not self._log:
            return self._number
        return counted_at(self._display, (self._number, self._presses), shown_until(self._display, self.tick))

    @property
    def lit(self):
        """The place that is lit at the present tick, None if none is."""
        return place_at(self._display, self.tick) if self._log else None

    @property
    def pattern(self):
        """The pattern of the place that is lit at the present tick, dark if none is."""
        place = self.lit
        return "" if place is None else PATTERNS[digits_of(self._display, self.shown)[place]]

    @property
    def history(self):
        """The history so far."""
        return (self._number, list(self._presses))

    @property
    def log(self):
        """The list of the calls that are not taken back, as tuples (name, tick)."""
        return list(self._log)

    def press(self, tick):
        """Make a press at a tick, which becomes the present one."""
        self._check_next(tick)
        if self._presses and tick == self._presses[-1]:
            raise InvalidTick("there is a press at this tick already")
        self._presses.append(tick)
        self._log.append((PRESS, tick))

    def wait(self, tick):
        """Go on to a tick, which becomes the present one."""
        self._check_next(tick)
        self._log.append((WAIT, tick))

    def undo(self):
        """Take back the last call of press or wait that is not taken back yet."""
        if not self._log:
            raise NothingToUndo("no call is left to be taken back")
        name, _ = self._log.pop()
        if name == PRESS:
            self._presses.pop()

    def picture(self, camera, begin):
        """The picture that a camera has made, if its exposure is over."""
        check_camera(camera)
        check_tick(begin)
        if not self._log or begin + camera[0] > self.tick:
            raise InvalidTick("the exposure is not over")
        return picture_begun(self._display, camera, (self._number, self._presses), begin)

    def fork(self):
        """A panel in the same state, which goes on by itself."""
        other = Panel(self._display, self._number)
        other._log = list(self._log)
        other._presses = list(self._presses)
        return other

    def _check_next(self, tick):
        """Raise InvalidTick unless a tick can be the next present one."""
        check_tick(tick)
        if self._log and tick < self.tick:
            raise InvalidTick("the tick is ahead of the present one")
