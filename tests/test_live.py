"""Points 30 to 32."""

import copy
import gc
import random
import unittest

from litdigits.errors import InvalidCamera, InvalidDisplay, InvalidNumber, InvalidTick, LitError, NothingToUndo
from litdigits.live import Panel
from litdigits.pictures import is_history, picture_of
from tests.helper import (
    NO_INTEGERS, PATTERNS, STRANGE, AtOnce, called, count_by_turns, lit_by_turns, picture_by_turns, shown_by_turns,
)

DISPLAY = (3, 10, 8, "now")


class PlainPanel:
    """What a panel must tell, worked out anew each time from a plain list of the calls."""

    def __init__(self, display, number):
        self.display, self.number, self.calls = display, number, []

    def presses(self):
        return [tick for name, tick in self.calls if name == "press"]

    def tick(self):
        return self.calls[-1][1] if self.calls else None

    def takes(self, name, tick):
        """Whether a call is none that raises."""
        if self.calls and tick < self.tick():
            return False
        return name == "wait" or tick not in self.presses()

    def properties(self):
        history = (self.number, self.presses())
        tick = self.tick()
        if tick is None:
            return [None, self.number, self.number, None, "", history, []]
        lit = [place for place in range(self.display[0]) if lit_by_turns(self.display, place, tick)]
        shown = shown_by_turns(self.display, history, tick)
        pattern = PATTERNS[int(str(shown).zfill(self.display[0])[lit[0]])] if lit else ""
        return [tick, count_by_turns(self.display, history, tick), shown, lit[0] if lit else None, pattern, history, self.calls]


def properties(panel):
    return [panel.tick, panel.counted, panel.shown, panel.lit, panel.pattern, panel.history, panel.log]


class Calls(unittest.TestCase):
    def check(self, panel, plain):
        self.assertEqual(properties(panel), plain.properties())
        self.assertEqual(len(panel), len(plain.calls))
        self.assertIs(is_history(plain.display, panel.history), True)

    def drawn_call(self, choice, panel, plain):
        """Makes a call of both, and compares what it does."""
        name = choice.choice(["press", "press", "wait", "wait", "undo"])
        if name == "undo":
            if plain.calls:
                plain.calls.pop()
                self.assertIsNone(called(panel.undo))
            else:
                self.assertIs(type(called(panel.undo)), NothingToUndo)
        else:
            tick = (plain.tick() or 0) + choice.choice([-3, -1, 0, 0, 1, 1, 2, 5, 9, 17])
            answer = called(getattr(panel, name), tick)
            if plain.takes(name, tick):
                self.assertIsNone(answer)
                plain.calls.append((name, tick))
            else:
                self.assertIs(type(answer), InvalidTick)
        self.check(panel, plain)

    def test_drawn_rows_of_calls(self):
        choice = random.Random(30)
        for _ in range(120):
            places, slot = choice.randrange(1, 4), choice.randrange(1, 6)
            display = (places, slot, choice.randrange(1, slot + 1), choice.choice(["now", "round"]))
            number = choice.choice([0, 9, 10 ** places - 2, choice.randrange(10 ** places)])
            panel, plain = Panel(display, number), PlainPanel(display, number)
            self.check(panel, plain)
            for _ in range(choice.randrange(60)):
                self.drawn_call(choice, panel, plain)

    def test_before_the_first_call(self):
        for driver in ("now", "round"):
            panel = Panel((3, 10, 8, driver), 198)
            self.assertEqual(properties(panel), [None, 198, 198, None, "", (198, []), []])
            self.assertEqual(len(panel), 0)
            self.assertIs(type(called(panel.undo)), NothingToUndo)

    def test_the_first_tick_can_be_any(self):
        for tick in (-10 ** 29, -1, 0, 1, 10 ** 29):
            for name in ("press", "wait"):
                panel = Panel(DISPLAY, 7)
                self.assertIsNone(called(getattr(panel, name), tick))
                self.assertEqual(panel.tick, tick)
                self.assertEqual(panel.counted, 8 if name == "press" else 7)

    def test_ticks_around_the_present_one(self):
        panel = Panel(DISPLAY, 0)
        panel.press(5)
        for tick in (-10 ** 29, 4, 5):
            self.assertIs(type(called(panel.press, tick)), InvalidTick)
        self.assertIsNone(called(panel.wait, 5))
        self.assertIs(type(called(panel.press, 5)), InvalidTick)
        self.assertIs(type(called(panel.wait, 4)), InvalidTick)
        self.assertIsNone(called(panel.wait, 9))
        for tick in (5, 6, 8):
            self.assertIs(type(called(panel.press, tick)), InvalidTick)
        self.assertIsNone(called(panel.press, 9))
        self.assertEqual(panel.log, [("press", 5), ("wait", 5), ("wait", 9), ("press", 9)])
        self.assertEqual(panel.history, (0, [5, 9]))

    def test_undo_to_the_begin(self):
        panel = Panel(DISPLAY, 999)
        states = []
        for name, tick in [("wait", -4), ("press", -4), ("press", 3), ("wait", 3), ("wait", 40), ("press", 41), ("wait", 41)]:
            states.append((properties(panel), len(panel)))
            getattr(panel, name)(tick)
        for state in reversed(states):
            self.assertIsNone(called(panel.undo))
            self.assertEqual((properties(panel), len(panel)), state)
        for _ in range(2):
            self.assertIs(type(called(panel.undo)), NothingToUndo)
            self.assertEqual((properties(panel), len(panel)), states[0])
        # What is taken back is as if it had never been: an earlier tick can come now.
        self.assertIsNone(called(panel.press, -100))
        self.assertEqual(panel.history, (999, [-100]))

    def test_a_press_that_is_taken_back_can_be_made_again(self):
        panel = Panel(DISPLAY, 0)
        panel.press(5)
        panel.undo()
        self.assertIsNone(called(panel.press, 5))
        panel.press(6)
        panel.undo()
        self.assertIs(type(called(panel.press, 5)), InvalidTick)
        self.assertIsNone(called(panel.press, 6))

    def test_round(self):
        panel = Panel((2, 5, 5, "round"), 99)
        for call, counted, shown in [(1, 0, 99), (2, 1, 99), (9, 2, 99), (10, 3, 3), (11, 4, 3), (30, 5, 5)]:
            panel.press(call)
            self.assertEqual([panel.counted, panel.shown], [counted, shown])

    def test_calls_that_raise_change_nothing(self):
        panel = Panel(DISPLAY, 5)
        for name, tick in [("wait", 3), ("press", 8), ("wait", 8), ("press", 12)]:
            getattr(panel, name)(tick)
            before = (properties(panel), len(panel))
            for wrong in (2, -10 ** 30, *NO_INTEGERS):
                self.assertIs(type(called(panel.press, wrong)), InvalidTick, repr(wrong))
                self.assertIs(type(called(panel.wait, wrong)), InvalidTick, repr(wrong))
                self.assertEqual((properties(panel), len(panel)), before)
            for camera, begin in [(None, 0), ((30, 0), 0), ((3, 1), tick), ((3, 1), None)]:
                self.assertIsInstance(called(panel.picture, camera, begin), LitError)
                self.assertEqual((properties(panel), len(panel)), before)

    def test_two_hundred_calls(self):
        panel = Panel((8, 10, 10, "now"), 99999990)
        for index in range(200):
            panel.press(index * 10 ** 26)
        self.assertEqual(panel.counted, 190)
        self.assertEqual(len(panel), 200)
        with AtOnce():
            for _ in range(200):
                panel.undo()
        self.assertEqual(panel, Panel((8, 10, 10, "now"), 99999990))

    def test_by_position_and_by_name(self):
        panel = Panel(number=3, display=DISPLAY)
        self.assertIsNone(panel.press(tick=4))
        self.assertIsNone(panel.wait(tick=50))
        self.assertEqual(panel.picture(begin=0, camera=(30, 4)), panel.picture((30, 4), 0))

    def test_properties_can_not_be_set(self):
        panel = Panel(DISPLAY, 3)
        for name in ("tick", "counted", "shown", "lit", "pattern", "history", "log"):
            self.assertTrue(hasattr(panel, name))
            with self.assertRaises(AttributeError):
                setattr(panel, name, 5)


class Wrong(unittest.TestCase):
    def test_displays_and_numbers(self):
        for display, index in [
            (None, None), ([3, 10, 8, "now"], None), ((3, 10, 8), None), ((9, 10, 8, "now"), 0), ((3, 0, 0, "now"), 1),
            ((3, 10, 11, "now"), 2), ((3, 10, 8, "later"), 3), *[(some, None) for some in STRANGE],
        ]:
            error = called(Panel, display, None)
            self.assertIs(type(error), InvalidDisplay, repr(display))
            self.assertEqual(error.index, index)
        for number in (-1, 1000, 10 ** 30, *NO_INTEGERS):
            self.assertIs(type(called(Panel, DISPLAY, number)), InvalidNumber, repr(number))
        for places in range(1, 9):
            self.assertEqual(Panel((places, 1, 1, "now"), 10 ** places - 1).counted, 10 ** places - 1)
            self.assertIs(type(called(Panel, (places, 1, 1, "now"), 10 ** places)), InvalidNumber)

    def test_pictures(self):
        panel = Panel(DISPLAY, 3)
        for camera, index in [(None, None), ([30, 4], None), ((30, ), None), ((0, 4), 0), ((30, 0), 1), ((True, 1), 0), *[(some, None) for some in STRANGE]]:
            for begin in (0, None):
                error = called(panel.picture, camera, begin)
                self.assertIs(type(error), InvalidCamera, repr(camera))
                self.assertEqual(error.index, index)
        for begin in (-10 ** 29, 0, *NO_INTEGERS):
            self.assertIs(type(called(panel.picture, (30, 4), begin)), InvalidTick)
        panel.wait(10 ** 29)
        for begin in NO_INTEGERS:
            self.assertIs(type(called(panel.picture, (30, 4), begin)), InvalidTick)
        self.assertEqual(len(panel), 1)


class Pictures(unittest.TestCase):
    def test_the_exposure_must_be_over(self):
        for present in (-7, 0, 30, 10 ** 29):
            panel = Panel(DISPLAY, 123)
            panel.wait(present)
            for exposure in (1, 2, 29, 10 ** 28):
                for begin, good in [(present - exposure, True), (present - exposure - 5, True), (present - exposure + 1, False), (present, False)]:
                    answer = called(panel.picture, (exposure, 4), begin)
                    if good:
                        self.assertEqual(answer, picture_of(DISPLAY, (exposure, 4), (123, []), begin))
                    else:
                        self.assertIs(type(answer), InvalidTick)

    def test_against_picture_of_the_history(self):
        choice = random.Random(31)
        for _ in range(150):
            places, slot = choice.randrange(1, 4), choice.randrange(1, 6)
            display = (places, slot, choice.randrange(1, slot + 1), choice.choice(["now", "round"]))
            number = choice.choice([9, 10 ** places - 1, choice.randrange(10 ** places)])
            panel = Panel(display, number)
            tick = choice.randrange(-9, 9)
            for _ in range(choice.randrange(1, 12)):
                getattr(panel, choice.choice(["press", "wait"]))(tick)
                tick += choice.randrange(1, 8)
            camera = (choice.randrange(1, 2 * places * slot + 2), choice.randrange(1, 4))
            begin = panel.tick - camera[0] - choice.choice([0, 0, 1, 5])
            expected = picture_by_turns(display, camera, panel.history, begin)
            self.assertEqual(called(panel.picture, camera, begin), expected)
            self.assertEqual(picture_of(display, camera, panel.history, begin), expected)
            # What comes later changes nothing of it.
            panel.press(panel.tick + 1)
            self.assertEqual(called(panel.picture, camera, begin), expected)

    def test_a_press_at_the_present_tick_is_not_in_the_picture(self):
        # With the driver "round" the press at 20 is shown from 30 on: it is in no picture up to there.
        for driver in ("now", "round"):
            panel = Panel((3, 10, 8, driver), 3)
            panel.wait(30)
            before = panel.picture((30, 4), 0)
            panel.press(30)
            self.assertEqual(panel.picture((30, 4), 0), before)

    def test_pictures_are_new_lists(self):
        panel = Panel(DISPLAY, 3)
        panel.wait(30)
        picture = panel.picture((30, 4), 0)
        self.assertIsNot(panel.picture((30, 4), 0), picture)
        picture.append("x")
        self.assertEqual(len(panel.picture((30, 4), 0)), 3)


class Forks(unittest.TestCase):
    def panel(self):
        panel = Panel(DISPLAY, 198)
        for name, tick in [("wait", 5), ("press", 9), ("press", 24), ("wait", 30)]:
            getattr(panel, name)(tick)
        return panel

    def test_the_same_state(self):
        panel = self.panel()
        other = called(panel.fork)
        self.assertIs(type(other), Panel)
        self.assertIsNot(other, panel)
        self.assertTrue(other == panel)
        self.assertEqual(properties(other), properties(panel))

    def test_both_can_take_back_the_same_calls(self):
        panel = self.panel()
        other = panel.fork()
        before = (properties(panel), len(panel))
        for _ in range(4):
            other.undo()
        self.assertIs(type(called(other.undo)), NothingToUndo)
        self.assertEqual(other, Panel(DISPLAY, 198))
        self.assertEqual((properties(panel), len(panel)), before)
        for _ in range(4):
            panel.undo()
        self.assertIs(type(called(panel.undo)), NothingToUndo)
        self.assertEqual(other, panel)

    def test_neither_changes_the_other_one(self):
        choice = random.Random(32)
        for _ in range(60):
            panels = [self.panel()]
            plain = [[("wait", 5), ("press", 9), ("press", 24), ("wait", 30)]]
            for _ in range(25):
                at = choice.randrange(len(panels))
                name = choice.choice(["press", "wait", "undo", "fork"])
                if name == "fork":
                    panels.append(panels[at].fork())
                    plain.append(list(plain[at]))
                elif name == "undo":
                    called(panels[at].undo)
                    plain[at] = plain[at][:-1]
                else:
                    tick = (panels[at].tick or 0) + choice.randrange(1, 9)
                    getattr(panels[at], name)(tick)
                    plain[at].append((name, tick))
                for panel, calls in zip(panels, plain):
                    self.assertEqual(panel.log, calls)
                    self.assertEqual(panel.history, (198, [tick for call, tick in calls if call == "press"]))
            for one, calls in zip(panels, plain):
                for other, others in zip(panels, plain):
                    self.assertIs(one == other, calls == others)

    def test_equal_panels(self):
        panel = self.panel()
        self.assertIs(panel == self.panel(), True)
        self.assertIs(panel != self.panel(), False)
        other = self.panel()
        other.undo()
        self.assertIs(panel == other, False)
        other.wait(30)
        self.assertIs(panel == other, True)
        other.undo()
        other.wait(31)
        self.assertIs(panel == other, False)

    def test_other_displays_and_numbers(self):
        for display in [DISPLAY, (3, 10, 8, "round"), (3, 10, 9, "now"), (3, 11, 8, "now"), (4, 10, 8, "now")]:
            for number in (5, 6):
                self.assertIs(Panel(display, number) == Panel(DISPLAY, 5), (display, number) == (DISPLAY, 5))

    def test_the_way_counts_too(self):
        # A press and a wait at the same ticks, the same history at the end: another log.
        one, other = Panel(DISPLAY, 5), Panel(DISPLAY, 5)
        one.wait(3)
        one.press(3)
        other.press(3)
        self.assertEqual(one.history, other.history)
        self.assertIs(one == other, False)
        one, other = Panel(DISPLAY, 5), Panel(DISPLAY, 6)
        one.press(3)
        other.wait(3)
        self.assertEqual(one.counted, other.counted)
        self.assertIs(one == other, False)

    def test_values_that_are_no_panel(self):
        panel = Panel(DISPLAY, 5)
        for value in [None, 5, "", "panel", [], (), {}, DISPLAY, (5, []), [5], panel.history, Panel, object(), 0.5, True]:
            self.assertIs(panel == value, False, repr(value))
            self.assertIs(panel != value, True, repr(value))
        self.assertIs(panel == panel, True)


class References(unittest.TestCase):
    def test_history_and_log_are_new_lists(self):
        panel = Panel(DISPLAY, 198)
        panel.press(9)
        panel.wait(12)
        for answer in (lambda: panel.history[1], lambda: panel.log):
            one, other = answer(), answer()
            self.assertIsNot(one, other)
            one.clear()
            self.assertEqual(answer(), other)
        self.assertEqual([panel.counted, panel.tick, len(panel)], [199, 12, 2])
        self.assertIs(type(panel.history), tuple)

    def test_the_display_is_not_kept(self):
        display = tuple([3, 10, 8, "now"])
        panel = Panel(display, 198)
        others = [some for some in gc.get_referrers(display) if some is vars(panel) or some is panel]
        self.assertEqual(others, [])
        self.assertFalse(any(value is display for value in vars(panel).values()))

    def test_copies_of_a_panel_are_equal(self):
        panel = Panel(DISPLAY, 198)
        panel.press(9)
        self.assertIs(copy.deepcopy(panel) == panel, True)

    def test_errors_are_of_one_class(self):
        self.assertEqual(NothingToUndo.__bases__, (LitError, ))
        self.assertEqual(str(NothingToUndo("x")), "x")


if __name__ == "__main__":
    unittest.main()
