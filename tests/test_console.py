"""Points 35 and 36."""

import random
import unittest

from litdigits.clear import is_clear
from litdigits.console import Console
from litdigits.drift import first_dark
from litdigits.errors import InvalidCamera, InvalidCommand, InvalidNumber, InvalidTick, LitError, NothingToUndo
from litdigits.lies import can_lie
from litdigits.live import Panel
from litdigits.pictures import reading_of
from litdigits.texts import format_display, format_picture
from litdigits.torn import torn_readings
from tests.helper import STRANGE, AtOnce, called

DISPLAY, CAMERA = (3, 10, 8, "now"), (30, 4)

# For each command words that are numbers of it.
NUMBERS = {
    "number": [7], "camera": [20, 3], "press": [40], "wait": [40], "undo": [], "shown": [], "picture": [0], "reading": [0],
    "clear": [], "drift": [0, 7], "torn": [0], "lie": [],
}


def torn_words(rows):
    """The answer of torn, put together anew."""
    words = []
    for least, greatest, reading in rows:
        presses = str(least) if least == greatest else str(least) + ".." + str(greatest)
        words.append(presses + "=" + ("none" if reading is None else str(reading)))
    return " ".join(words) if words else "none"


class Sample:
    """A console together with what it should have: a panel, a display and a camera."""

    def __init__(self):
        self.console, self.display, self.panel, self.camera = Console(), DISPLAY, Panel(DISPLAY, 0), CAMERA

    def expected(self, name, numbers):
        """The answer to a command, by the functions; or the error that they raise."""
        try:
            return self.answer(name, numbers)
        except LitError as error:
            return error

    def answer(self, name, numbers):
        display, camera, panel = self.display, self.camera, self.panel
        if name == "shown":
            return str(panel.shown)
        if name == "picture":
            return format_picture(panel.picture(camera, *numbers))
        if name == "reading":
            reading = reading_of(display, panel.picture(camera, *numbers))
            return "none" if reading is None else str(reading)
        if name == "clear":
            return "yes" if is_clear(display, camera) else "no"
        if name == "drift":
            found = first_dark(display, camera, *numbers)
            return "none" if found is None else str(found)
        if name == "torn":
            return torn_words(torn_readings(display, camera, panel.shown, *numbers))
        if name == "lie":
            return "yes" if can_lie(display, camera, panel.shown) else "no"
        if name == "number":
            self.panel = Panel(display, *numbers)
        elif name == "camera":
            is_clear(display, tuple(numbers))
            self.camera = tuple(numbers)
        else:
            getattr(panel, name)(*numbers)
        return "ok"

    def set_display(self, display):
        self.display, self.panel = display, Panel(display, 0)


class Consoles(unittest.TestCase):
    def told(self, console, *commands):
        return [console.execute(command) for command in commands]

    def refused(self, error_class, command, console=None, index=""):
        error = called((console or Console()).execute, command)
        self.assertIs(type(error), error_class, repr(command))
        self.assertEqual(getattr(error, "index", ""), index, repr(command))

    def state(self, console):
        """What a console tells of its panel and its camera, without a change."""
        commands = ["shown", "clear", "drift 0 7", "drift -3 1", "torn 0", "torn 17", "torn -40", "lie", "picture 0", "reading -31"]
        return [repr(called(console.execute, command)) for command in commands]


class Commands(Consoles):
    def test_the_begin(self):
        console = Console()
        self.assertEqual(self.told(console, "shown", "clear", "drift 0 7", "torn 0", "lie"), [
            "0", "yes", "none", torn_words(torn_readings(DISPLAY, CAMERA, 0, 0)), "no",
        ])
        self.refused(NothingToUndo, "undo", console)
        self.refused(InvalidTick, "picture 0", console)
        self.assertEqual(self.told(console, "wait 30", "picture 0", "reading 0"), ["ok", "abcdef abcdef abcdef", "0"])

    def test_drawn_commands(self):
        choice = random.Random(35)
        answers = {}
        for _ in range(150):
            sample = Sample()
            for _ in range(25):
                name = choice.choice([*NUMBERS, "press", "wait", "display"])
                if name == "display":
                    places, slot = choice.randrange(1, 4), choice.randrange(1, 8)
                    display = (places, slot, choice.randrange(1, slot + 1), choice.choice(["now", "round"]))
                    self.assertEqual(called(sample.console.execute, f"display {format_display(display)}"), "ok")
                    sample.set_display(display)
                    continue
                tick = (sample.panel.tick or 0) + choice.choice([-1, 0, 1, 2, 7, 15])
                numbers = {
                    "number": [choice.randrange(-1, 110)], "camera": [choice.randrange(0, 30), choice.randrange(0, 6)],
                    "press": [tick], "wait": [tick], "drift": [choice.randrange(-9, 9), choice.randrange(0, 9)],
                    "picture": [tick - choice.randrange(40)], "reading": [tick - choice.randrange(40)], "torn": [choice.randrange(-20, 20)],
                }.get(name, [])
                expected = sample.expected(name, numbers)
                answer = called(sample.console.execute, " ".join([name, *map(str, numbers)]))
                self.assertEqual(type(answer), type(expected), (name, numbers))
                self.assertEqual(str(answer), str(expected), (name, numbers))
                answers.setdefault(name, {})[str(answer)[:4]] = True
        self.assertTrue(all(len(some) > 1 for some in answers.values()), answers)

    def test_display_begins_with_the_number_0_and_leaves_the_camera(self):
        console = Console()
        self.told(console, "camera 29 8", "number 17", "press 5")
        self.assertEqual(self.told(console, "display 2x7/5 round", "shown", "clear"), ["ok", "0", self.clear((2, 7, 5, "round"), (29, 8))])
        self.refused(NothingToUndo, "undo", console)
        self.assertEqual(self.told(console, "press -100", "display 3x10/8 now", "clear"), ["ok", "ok", "no"])

    def clear(self, display, camera):
        return "yes" if is_clear(display, camera) else "no"

    def test_number_leaves_the_display_and_the_camera(self):
        console = Console()
        self.told(console, "display 2x7/5 round", "camera 14 5", "press 3", "wait 9")
        self.assertEqual(self.told(console, "number 99", "shown", "clear", "press -50", "wait 0", "shown"), ["ok", "99", "yes", "ok", "ok", "0"])
        self.refused(InvalidNumber, "number 100", console)
        self.assertEqual(self.told(console, "undo", "undo"), ["ok", "ok"])
        self.refused(NothingToUndo, "undo", console)

    def test_camera_leaves_the_panel(self):
        console = Console()
        self.told(console, "number 3", "press 24", "wait 30")
        self.assertEqual(self.told(console, "reading 0", "camera 30 5", "reading 0", "shown", "undo", "undo"), ["9", "ok", "none", "4", "ok", "ok"])
        self.refused(NothingToUndo, "undo", console)

    def test_undo_of_the_calls_of_the_panel_alone(self):
        console = Console()
        for command in ("number 5", "camera 20 3", "display 1x4/4 now", "camera 4 1"):
            console.execute(command)
            self.refused(NothingToUndo, "undo", console)
        self.told(console, "press 1", "camera 4 2", "wait 2")
        self.assertEqual(self.told(console, "shown", "undo", "undo", "shown"), ["1", "ok", "ok", "0"])
        self.refused(NothingToUndo, "undo", console)

    def test_torn(self):
        console = Console()
        self.told(console, "number 199")
        self.assertEqual(console.execute("torn 0"), "1..3=200 4=none 5..13=100 14=180 15..23=190 24=198 25..29=199")
        self.assertEqual(console.execute("torn -30"), "-29..-27=200 -26=none -25..-17=100 -16=180 -15..-7=190 -6=198 -5..-1=199")
        # The number is the one that is shown.
        self.assertEqual(self.told(console, "press 7", "shown"), ["ok", "200"])
        self.assertEqual(console.execute("torn 30"), torn_words(torn_readings(DISPLAY, CAMERA, 200, 30)))
        self.assertEqual(self.told(console, "camera 1 1", "torn 0"), ["ok", "none"])
        self.assertEqual(self.told(console, "camera 5 5", "torn 8"), ["ok", "9..12=none"])

    def test_shown_is_not_what_is_counted(self):
        console = Console()
        answers = self.told(console, "display 1x10/10 round", "number 6", "camera 20 5", "press 3", "shown", "lie", "wait 10", "shown", "lie")
        self.assertEqual(answers, ["ok", "ok", "ok", "ok", "6", "yes", "ok", "7", "no"])

    def test_none(self):
        console = Console()
        self.assertEqual(self.told(console, "drift 0 30", "camera 1 1", "torn 3", "wait 9", "reading 0"), ["none", "ok", "none", "ok", "none"])

    def test_great_numbers(self):
        console, most = Console(), 10 ** 30 - 1
        self.assertEqual(self.told(console, f"wait -{most}", f"press {most}", "shown", f"drift -{most} {most}"), ["ok", "ok", "1", "none"])
        self.assertEqual(self.told(console, f"display 8x{most}/{most} round", f"camera {most} {most}", "clear", "shown"), ["ok", "ok", "no", "0"])
        with AtOnce():
            self.assertEqual(console.execute(f"torn {most}"), torn_words(torn_readings((8, most, most, "round"), (most, most), 0, most)))

    def test_two_consoles_know_nothing_of_each_other(self):
        one, other = Console(), Console()
        before = self.state(other)
        self.told(one, "number 5", "press 3", "camera 20 3")
        self.assertEqual(self.state(other), before)
        self.told(one, "display 1x4/4 now", "press 3")
        self.assertEqual(self.state(other), before)
        self.assertEqual(self.state(Console()), before)

    def test_by_name(self):
        self.assertEqual(Console().execute(command="shown"), "0")


class Errors(Consoles):
    def busy(self):
        console = Console()
        self.told(console, "display 3x10/8 now", "number 3", "camera 29 5", "press 24", "wait 50")
        return console

    def test_forms(self):
        for name, numbers in NUMBERS.items():
            words = [name, *map(str, numbers)]
            good = Console()
            self.told(good, "wait 35", "camera 30 4")
            self.assertIsInstance(good.execute(" ".join(words)), str)
            wrong = [
                [*words, "5"], [*words, ""], ["", *words], [name, "", *words[1:]], [*words, "x"], [name.upper(), *words[1:]], [name + "s", *words[1:]],
                [name[:-1], *words[1:]], [name + "\n", *words[1:]], [*words[:-1], words[-1] + "\n"],
            ]
            for index in range(1, len(words)):
                wrong.append(words[:index])
                for word in ["", "x", "5.0", "+5", "05", "-0", "--5", "1" * 31, "-" + "1" * 31, "5,", "\u0665", "None", "5\n", "now"]:
                    wrong.append([*words[:index], word, *words[index + 1:]])
            for some in wrong:
                console = self.busy()
                before = self.state(console)
                self.refused(InvalidCommand, " ".join(some), console)
                self.assertEqual(self.state(console), before, some)

    def test_display(self):
        for words in [
            "", "3x10/8", "now", "3x10/11 now", "9x10/8 now", "0x1/1 now", "3x10/8 later", "3x10/8 now now", "3x10/8 now ", " 3x10/8 now",
            "3x10/8  now", "3x10/8 now 5", "03x10/8 now", "-3x10/8 now", "3x10/0 round", "3x0/0 round", "now 3x10/8", "5", "3 10 8 now",
        ]:
            console = self.busy()
            before = self.state(console)
            self.refused(InvalidCommand, f"display {words}", console)
            self.refused(InvalidCommand, "display" + words.strip(), console)
            self.assertEqual(self.state(console), before)
        self.assertEqual(Console().execute("display 1x1/1 round"), "ok")

    def test_no_commands(self):
        for command in ["", " ", "  ", "\n", "help", "5", "shown\n", "Shown", "quit", "panel", "ok", "undo undo", "shown shown", "x" * 50000, " " * 50000]:
            self.refused(InvalidCommand, command)
        for command in [*[value for value in STRANGE if not isinstance(value, str)], 5, ["shown"], ("shown", ), [], b"shown"]:
            self.refused(InvalidCommand, command)

    def test_errors_of_the_calls(self):
        for command, error_class, index in [
            ("camera 30 0", InvalidCamera, 1), ("camera 0 4", InvalidCamera, 0), ("camera -1 -1", InvalidCamera, 0), ("camera 1 -1", InvalidCamera, 1),
            ("number 1000", InvalidNumber, ""), ("number -1", InvalidNumber, ""), ("number " + "9" * 30, InvalidNumber, ""),
            ("press 49", InvalidTick, ""), ("press 24", InvalidTick, ""), ("press -5", InvalidTick, ""), ("wait 49", InvalidTick, ""),
            ("picture 22", InvalidTick, ""), ("reading 22", InvalidTick, ""), ("picture 50", InvalidTick, ""),
            ("drift 0 0", InvalidNumber, ""), ("drift 5 -7", InvalidNumber, ""),
        ]:
            console = self.busy()
            before = self.state(console)
            self.refused(error_class, command, console, index)
            self.assertEqual(self.state(console), before, command)
            # Neither has anything changed of what can be taken back.
            self.assertEqual(self.told(console, "undo", "undo", "shown"), ["ok", "ok", "3"])
            self.refused(NothingToUndo, "undo", console)

    def test_the_form_comes_first(self):
        self.refused(InvalidCommand, "camera 0 x")
        self.refused(InvalidCommand, "camera 0")
        self.refused(InvalidCommand, "undo 5")
        self.refused(InvalidCommand, "number 1000 5")
        self.refused(InvalidCommand, "picture now")
        self.refused(NothingToUndo, "undo")

    def test_the_picture_that_is_just_over(self):
        console = self.busy()
        self.assertEqual(self.told(console, "picture 21")[0], format_picture(self.panel().picture((29, 5), 21)))

    def panel(self):
        panel = Panel(DISPLAY, 3)
        panel.press(24)
        panel.wait(50)
        return panel


if __name__ == "__main__":
    unittest.main()
