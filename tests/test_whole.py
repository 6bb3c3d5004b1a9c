"""Point 4: what holds over the whole program, with drawn displays and cameras; and point 2: answers as arguments."""

import random
import unittest

from litdigits.clear import (
    clear_begins, dark_paper, greatest_need, is_clear, least_exposure, least_lit, seen_begins, seen_places, shows_dark,
)
from litdigits.console import Console
from litdigits.drift import count_dark, first_clear, first_dark
from litdigits.explained import explanations_of, is_explained, numbers_behind
from litdigits.films import film_fits, first_misfit
from litdigits.lies import can_lie, is_truthful, kind_of, lie_paper, lies_at, lying_kinds, shows_lie
from litdigits.live import Panel
from litdigits.paces import number_row, paced_history
from litdigits.pictures import film_of, is_history, picture_of, reading_of, shown_at
from litdigits.texts import format_display, format_history, format_picture, parse_display, parse_history, parse_picture
from litdigits.told import history_paper, numbers_at, shows_history, sure_numbers
from litdigits.torn import press_span, torn_pictures, torn_readings


def drawn_display(choice, most_places, most_slot):
    slot = choice.randrange(1, most_slot + 1)
    return (choice.randrange(1, most_places + 1), slot, choice.randrange(1, slot + 1), choice.choice(["now", "round"]))


def drawn_camera(choice, display):
    turn = display[0] * display[1]
    return (choice.randrange(1, 2 * turn + 3), choice.randrange(1, 2 * display[2] + 2))


class Guarantees(unittest.TestCase):
    def setUp(self):
        self.choice = random.Random(4)

    def drawn(self, many, most_places=4, most_slot=8):
        for _ in range(many):
            display = drawn_display(self.choice, most_places, most_slot)
            yield display, drawn_camera(self.choice, display)

    def test_clear_exactly_if_the_need_is_not_too_great(self):
        told = {True: 0, False: 0}
        for display, camera in self.drawn(400):
            clear = is_clear(display, camera)
            self.assertIs(clear, camera[1] <= greatest_need(display, camera[0]))
            self.assertIs(clear, camera[0] >= least_exposure(display, camera[1]))
            paper = dark_paper(display, camera)
            self.assertIs(paper is None, clear)
            self.assertIs(clear, clear_begins(display, camera) == [(0, display[0] * display[1] - 1)])
            self.assertIs(clear, first_dark(display, camera, 0, 1) is None)
            if not clear:
                self.assertIs(shows_dark(display, camera, paper), True)
                self.assertNotIn(paper[1], seen_places(display, camera, paper[0]))
                self.assertEqual(picture_of(display, camera, (0, []), paper[0])[paper[1]], "")
            least = least_lit(display, camera)
            if clear:
                self.assertLessEqual(least, display[2])
            told[clear] += 1
        self.assertGreater(min(told.values()), 50)

    def test_places_that_are_seen_are_not_dark_in_the_picture(self):
        for display, camera in self.drawn(200):
            begin = self.choice.randrange(-50, 50)
            picture = picture_of(display, camera, (self.choice.randrange(10 ** display[0]), []), begin)
            seen = seen_places(display, camera, begin)
            self.assertEqual(seen, [place for place, pattern in enumerate(picture) if pattern])
            at = begin % (display[0] * display[1])
            for place in range(display[0]):
                inside = any(least <= at <= greatest for least, greatest in seen_begins(display, camera, place))
                self.assertIs(inside, place in seen)

    def test_rows_of_pictures(self):
        for display, camera in self.drawn(200):
            first, period = self.choice.randrange(-50, 50), self.choice.randrange(1, 60)
            film = film_of(display, camera, (0, []), first, period, 60)
            dark = [index for index, picture in enumerate(film) if "" in picture]
            clear = [index for index, picture in enumerate(film) if "" not in picture]
            self.assertEqual(first_dark(display, camera, first, period), dark[0] if dark else None)
            self.assertEqual(first_clear(display, camera, first, period), clear[0] if clear else None)
            self.assertEqual(count_dark(display, camera, first, period, 60), len(dark))

    def test_truthful_exactly_if_no_kind_lies(self):
        told = {True: 0, False: 0}
        for display, camera in self.drawn(250, 3, 7):
            kinds = lying_kinds(display, camera)
            truthful = is_truthful(display, camera)
            self.assertIs(truthful, kinds == [])
            told[truthful] += 1
            number = self.choice.choice([9, 10 ** display[0] - 1, self.choice.randrange(10 ** display[0])])
            paper = lie_paper(display, camera, number)
            self.assertIs(can_lie(display, camera, number), kind_of(display, number) in kinds)
            self.assertIs(paper is not None, kind_of(display, number) in kinds)
            if paper is not None:
                begin, press = paper
                self.assertIs(shows_lie(display, camera, number, paper), True)
                rows = lies_at(display, camera, number, begin)
                reading = reading_of(display, picture_of(display, camera, (number, [press]), begin))
                self.assertIn(reading, [row[2] for row in rows if row[0] <= press <= row[1]])
        self.assertGreater(min(told.values()), 40)

    def test_each_press_of_the_span_is_told(self):
        for display, camera in self.drawn(120, 3, 6):
            begin, number = self.choice.randrange(-20, 20), self.choice.choice([0, 9, 10 ** display[0] - 1])
            span = press_span(display, camera, begin)
            rows, readings = torn_pictures(display, camera, number, begin), torn_readings(display, camera, number, begin)
            self.assertIs(span is None, rows == [])
            self.assertIs(span is None, readings == [])
            if span is None:
                continue
            for press in range(span[0], span[1] + 1):
                picture = picture_of(display, camera, (number, [press]), begin)
                told = [some for least, greatest, some in rows if least <= press <= greatest]
                self.assertEqual(told, [picture])
                read = [some for least, greatest, some in readings if least <= press <= greatest]
                self.assertEqual(read, [reading_of(display, picture)])
                ways = explanations_of(display, camera, begin, picture)
                self.assertTrue(any(way and some == number and way[0] <= press <= way[1] for some, way in ways))
                self.assertIn(number, numbers_behind(display, camera, begin, picture))
                self.assertIs(is_explained(display, camera, begin, picture), True)

    def test_a_film_fits_exactly_if_there_is_a_history(self):
        told = {True: 0, False: 0}
        for display, camera in self.drawn(300, 2, 6):
            camera = (camera[0], min(camera[1], display[2]))
            gap = camera[0] + (display[0] * display[1] if display[3] == "round" else 0) + self.choice.randrange(4)
            presses = [self.choice.randrange(gap)]
            while len(presses) < 8:
                presses.append(presses[-1] + gap + self.choice.randrange(5))
            history = (self.choice.randrange(10 ** display[0]), presses)
            film = []
            begin = 0
            for _ in range(4):
                begin += camera[0] + self.choice.choice([0, 1, gap])
                film.append((begin, picture_of(display, camera, history, begin)))
            if self.choice.random() < 0.5:
                film[2] = (film[2][0], film[self.choice.randrange(4)][1])
            fits = film_fits(display, camera, gap, film)
            paper = history_paper(display, camera, gap, film)
            self.assertIs(fits, paper is not None)
            self.assertIs(fits, first_misfit(display, camera, gap, film) is None)
            told[fits] += 1
            if fits:
                self.assertIs(is_history(display, paper), True)
                self.assertIs(shows_history(display, camera, gap, film, paper), True)
                self.assertEqual([picture_of(display, camera, paper, begin) for begin, _ in film], [some for _, some in film])
                for index, (begin, _) in enumerate(film):
                    self.assertIn(shown_at(display, paper, begin), numbers_at(display, camera, gap, film, index))
                self.assertEqual(len(sure_numbers(display, camera, gap, film)), 4)
        self.assertGreater(min(told.values()), 40)

    def test_a_panel_has_the_history_so_far(self):
        for display, camera in self.drawn(100):
            number = self.choice.randrange(10 ** display[0])
            panel = Panel(display, number)
            presses = []
            tick = self.choice.randrange(-30, 30)
            for _ in range(15):
                tick += self.choice.randrange(1, 9)
                panel.press(tick)
                presses.append(tick)
                self.assertEqual(panel.history, (number, presses))
                self.assertEqual(panel.shown, shown_at(display, (number, presses), tick))
                begin = tick - camera[0]
                self.assertEqual(panel.picture(camera, begin), picture_of(display, camera, (number, presses), begin))

    def test_a_console_answers_as_the_functions_do(self):
        for display, camera in self.drawn(150, 3, 6):
            console = Console()
            number, begin = self.choice.randrange(10 ** display[0]), self.choice.randrange(-20, 20)
            for command in (f"display {format_display(display)}", f"camera {camera[0]} {camera[1]}", f"number {number}"):
                self.assertEqual(console.execute(command), "ok")
            self.assertEqual(console.execute("shown"), str(number))
            self.assertEqual(console.execute("clear"), "yes" if is_clear(display, camera) else "no")
            self.assertEqual(console.execute("lie"), "yes" if can_lie(display, camera, number) else "no")
            found = first_dark(display, camera, begin, 7)
            self.assertEqual(console.execute(f"drift {begin} 7"), "none" if found is None else str(found))
            press = begin + self.choice.randrange(camera[0] + 1)
            console.execute(f"press {press}")
            console.execute(f"wait {begin + camera[0] + 1}")
            picture = picture_of(display, camera, (number, [press]), begin)
            self.assertEqual(console.execute(f"picture {begin}"), format_picture(picture))
            reading = reading_of(display, picture)
            self.assertEqual(console.execute(f"reading {begin}"), "none" if reading is None else str(reading))


class AnswersAsArguments(unittest.TestCase):
    def test_histories_and_pictures(self):
        choice = random.Random(2)
        for _ in range(60):
            display = drawn_display(choice, 4, 8)
            camera = drawn_camera(choice, display)
            counter = (choice.randrange(10 ** display[0]), choice.randrange(-9, 9), choice.randrange(1, 30))
            history = paced_history(display, counter, -20, 60)
            self.assertIs(is_history(display, history), True)
            self.assertEqual(parse_history(display, format_history(history)), history)
            self.assertEqual(parse_display(format_display(display)), display)
            for picture in film_of(display, camera, history, -10, 7, 5):
                self.assertEqual(parse_picture(display, format_picture(picture)), picture)
            if display[3] == "now":
                shown = [shown_at(display, history, -10 + 7 * index) for index in range(8)]
                self.assertEqual(shown, number_row(display, counter, -10, 7, 8))


if __name__ == "__main__":
    unittest.main()
