"""A console: commands for a panel and a camera, which are answered with strings."""

from litdigits.clear import is_clear
from litdigits.drift import first_dark
from litdigits.errors import InvalidCommand, InvalidSyntax
from litdigits.lies import can_lie
from litdigits.live import Panel
from litdigits.pictures import check_camera, reading_of
from litdigits.texts import format_picture, number_in, parse_display
from litdigits.torn import torn_readings

FIRST_DISPLAY = (3, 10, 8, "now")
FIRST_CAMERA = (30, 4)

NOTHING = "none"

# The commands that change something, and those that answer: each one with how many numbers stand behind it.
CHANGES = {"number": 1, "camera": 2, "press": 1, "wait": 1, "undo": 0}
QUESTIONS = {"shown": 0, "picture": 1, "reading": 1, "clear": 0, "drift": 2, "torn": 1, "lie": 0}


def numbers_told(words, many):
    """The list of the numbers of so many words; raise InvalidCommand unless they are that."""
    numbers = [number_in(word) for word in words]
    if len(numbers) != many or None in numbers:
        raise InvalidCommand("these are not the numbers of this command")
    return numbers


def display_told(words):
    """The display of the words of a text; raise InvalidCommand unless they are one."""
    try:
        return parse_display(" ".join(words))
    except InvalidSyntax:
        raise InvalidCommand("these words are no text of a display") from None


def told(value):
    """The answer for an integer or None."""
    return NOTHING if value is None else str(value)


def agreed(flag):
    """The answer for True or False."""
    return "yes" if flag else "no"


def reading_told(row):
    """The word for a tuple (least, greatest, reading)."""
    least, greatest, reading = row
    return f"{least}={told(reading)}" if least == greatest else f"{least}..{greatest}={told(reading)}"


class Console:
    """A panel and a camera, and the commands for them."""

    def __init__(self):
        self._display = FIRST_DISPLAY
        self._panel = Panel(FIRST_DISPLAY, 0)
        self._camera = FIRST_CAMERA

    def execute(self, command):
        """Carry out a command, and return its answer."""
        if not isinstance(command, str):
            raise InvalidCommand("a command is a string")
        words = command.split(" ")
        name, words = words[0], words[1:]
        if name in QUESTIONS:
            return self._answer(name, numbers_told(words, QUESTIONS[name]))
        if name in CHANGES:
            self._change(name, numbers_told(words, CHANGES[name]))
        elif name == "display":
            self._begin(display_told(words), 0)
        else:
            raise InvalidCommand("there is no such command")
        return "ok"

    def _begin(self, display, number):
        """Begin a new panel."""
        self._panel = Panel(display, number)
        self._display = display

    def _change(self, name, numbers):
        """Carry out a command that changes something, but display."""
        if name == "number":
            self._begin(self._display, numbers[0])
        elif name == "camera":
            camera = tuple(numbers)
            check_camera(camera)
            self._camera = camera
        elif name == "press":
            self._panel.press(numbers[0])
        elif name == "wait":
            self._panel.wait(numbers[0])
        else:
            self._panel.undo()

    def _answer(self, name, numbers):
        """The answer of a command that changes nothing."""
        if name == "shown":
            return str(self._panel.shown)
        if name == "picture":
            return format_picture(self._panel.picture(self._camera, numbers[0]))
        if name == "reading":
            return told(reading_of(self._display, self._panel.picture(self._camera, numbers[0])))
        if name == "clear":
            return agreed(is_clear(self._display, self._camera))
        if name == "drift":
            return told(first_dark(self._display, self._camera, numbers[0], numbers[1]))
        if name == "lie":
            return agreed(can_lie(self._display, self._camera, self._panel.shown))
        rows = torn_readings(self._display, self._camera, self._panel.shown, numbers[0])
        return " ".join([reading_told(row) for row in rows]) if rows else NOTHING
