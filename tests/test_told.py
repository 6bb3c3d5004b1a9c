"""Point 25."""

import random
import unittest

from litdigits.errors import Impossible, InvalidFilm, InvalidNumber
from litdigits.films import film_fits
from litdigits.pictures import picture_of, shown_at
from litdigits.told import history_paper, numbers_at, shows_history, sure_numbers
from tests.helper import (
    NO_INTEGERS, STRANGE, AtOnce, PicturesByTurns, called, films_by_turns, lists_in, shown_from, told_by_ticks,
)
from tests.test_films import CAMERA, DISPLAY, SMALL, TEN, THIRTY, TWENTY, film_with, some_films

FILM = [(0, TEN), (20, TWENTY)]


class AllHistories(unittest.TestCase):
    def compare(self, display, camera, gap, film, told):
        """Compares with the tuples of the numbers shown at the begins, of all histories that fit."""
        given = (display, camera, gap, film)
        if not told:
            self.assertIs(type(called(sure_numbers, *given)), Impossible, given)
            self.assertIsNone(called(history_paper, *given), given)
            for index in range(len(film)):
                self.assertIs(type(called(numbers_at, *given, index)), Impossible, given)
            return
        columns = [sorted(set(column)) for column in zip(*told)]
        for index, numbers in enumerate(columns):
            self.assertEqual(called(numbers_at, *given, index), numbers, given)
        sure = [numbers[0] if len(numbers) == 1 else None for numbers in columns]
        self.assertEqual(called(sure_numbers, *given), sure, given)
        self.check_paper(display, camera, gap, film, called(history_paper, *given))

    def check_paper(self, display, camera, gap, film, paper):
        number, presses = paper
        self.assertIs(type(paper), tuple)
        self.assertIn(number, range(10 ** display[0]))
        self.assertTrue(all(later - earlier >= gap for earlier, later in zip(presses, presses[1:])))
        pictures = PicturesByTurns(display, camera)
        for begin, picture in film:
            self.assertEqual(pictures.picture(paper, begin), picture)
        for press in presses:
            self.assertIn(shown_from(display, press), range(film[0][0] + 1, film[-1][0] + camera[0]))
        self.assertIs(called(shows_history, display, camera, gap, film, paper), True)

    def test_films_of_one_to_three_pictures(self):
        for display, camera, gap, begins in SMALL:
            for length in (1, 2, 3):
                every = films_by_turns(display, camera, gap, begins[:length])
                for pictures in some_films(every, random.Random(length), 25):
                    film = film_with(begins, pictures)
                    self.compare(display, camera, gap, film, every.get(pictures, set()))

    def test_two_places(self):
        for display, camera, gap, begins in [
            ((2, 2, 2, "now"), (4, 1), 4, [0, 4]), ((2, 2, 2, "now"), (4, 2), 5, [-1, 5]),
            ((2, 2, 1, "round"), (5, 1), 9, [0, 6]), ((2, 1, 1, "round"), (3, 1), 5, [0, 4]),
        ]:
            every = films_by_turns(display, camera, gap, begins)
            for pictures in some_films(every, random.Random(2), 50):
                self.compare(display, camera, gap, film_with(begins, pictures), every.get(pictures, set()))

    def test_longer_films_from_tick_to_tick(self):
        choice = random.Random(25)
        for _ in range(40):
            slot = choice.randrange(2, 6)
            display = (1, slot, choice.randrange(1, slot + 1), choice.choice(["now", "round"]))
            exposure = choice.randrange(2, 2 * slot)
            camera = (exposure, choice.randrange(1, max(2, display[2])))
            gap = exposure + (slot if display[3] == "round" else 0) + choice.choice([0, 0, 1, 5])
            begins = [choice.randrange(-20, 5)]
            while len(begins) < 4:
                begins.append(begins[-1] + exposure + choice.choice([0, 1, gap, 2 * gap, 4 * gap]))
            presses = [begins[0]]
            while presses[-1] < begins[-1] + exposure:
                presses.append(presses[-1] + gap + choice.choice([0, 1, gap, 3 * gap]))
            history = (choice.randrange(10), presses)
            film = [(begin, picture_of(display, camera, history, begin)) for begin in begins]
            if choice.random() < 0.4:
                film[choice.randrange(4)] = (film[0][0], film[1][1])
                film = sorted(film)
            if all(later[0] - earlier[0] >= exposure for earlier, later in zip(film, film[1:])):
                self.compare(display, camera, gap, film, told_by_ticks(display, camera, gap, film))

    def test_no_pictures(self):
        for display, camera, gap in [(DISPLAY, CAMERA, 20), ((1, 10, 1, "round"), (1, 100), 11)]:
            self.assertEqual(called(sure_numbers, display, camera, gap, []), [])
            self.assertEqual(called(history_paper, display, camera, gap, [])[1], [])
            self.assertIs(called(shows_history, display, camera, gap, [], called(history_paper, display, camera, gap, [])), True)
            self.assertIs(called(shows_history, display, camera, gap, [], (9, [3, 3 + gap])), True)
            self.assertIs(called(shows_history, display, camera, gap, [], (9, [3, 2 + gap])), False)
            for index in (0, 1, -1):
                self.assertIs(type(called(numbers_at, display, camera, gap, [], index)), InvalidNumber)


class LongFilms(unittest.TestCase):
    def drawn(self, choice, display, camera, gap, step):
        """A film of twelve pictures, the history that it comes from, and the numbers shown."""
        presses = [choice.randrange(-gap, gap)]
        while presses[-1] < 12 * step:
            presses.append(presses[-1] + gap + choice.choice([0, 1, gap // 2, gap]))
        history = (choice.randrange(10 ** display[0]), presses)
        begins = [step * index + choice.randrange(step - camera[0] + 1) for index in range(12)]
        film = [(begin, picture_of(display, camera, history, begin)) for begin in begins]
        return film, history, [shown_at(display, history, begin) for begin in begins]

    def test_one_more_picture_takes_numbers_away(self):
        choice = random.Random(9)
        for _ in range(15):
            display = (choice.choice([1, 2]), 10, choice.choice([8, 10]), choice.choice(["now", "round"]))
            turn = 10 * display[0]
            camera = (turn + choice.randrange(5), choice.choice([2, 4, 5]))
            gap = camera[0] + (turn if display[3] == "round" else 0) + choice.randrange(20)
            film, history, shown = self.drawn(choice, display, camera, gap, choice.choice([camera[0], 60, 3 * gap]))
            before = []
            for length in range(1, 13):
                found = [called(numbers_at, display, camera, gap, film[:length], index) for index in range(length)]
                for index, numbers in enumerate(found):
                    self.assertIn(shown[index], numbers)
                    self.assertEqual(numbers, sorted(set(numbers)))
                    if index < len(before):
                        self.assertLessEqual(set(numbers), set(before[index]))
                sure = called(sure_numbers, display, camera, gap, film[:length])
                self.assertEqual(sure, [numbers[0] if len(numbers) == 1 else None for numbers in found])
                before = found
            self.assertIs(called(shows_history, display, camera, gap, film, history), True)
            paper = called(history_paper, display, camera, gap, film)
            self.assertIs(called(shows_history, display, camera, gap, film, paper), True)
            self.assertTrue(all(shown_at(display, paper, begin) in numbers for (begin, _), numbers in zip(film, before)))

    def test_great_slots_and_gaps(self):
        choice = random.Random(11)
        slot = 10 ** 27
        for driver in ("now", "round"):
            for _ in range(8):
                display, camera = (2, slot, 8 * slot // 10, driver), (2 * slot, 4 * slot // 10)
                gap = 2 * slot + (2 * slot if driver == "round" else 0) + choice.randrange(slot)
                film, history, shown = self.drawn(choice, display, camera, gap, choice.choice([2, 5]) * slot)
                with AtOnce():
                    self.assertIs(called(shows_history, display, camera, gap, film, history), True)
                    paper = called(history_paper, display, camera, gap, film)
                    self.assertIs(called(shows_history, display, camera, gap, film, paper), True)
                    for index in (0, 5, 11):
                        self.assertIn(shown[index], called(numbers_at, display, camera, gap, film, index))

    def test_many_presses_between_the_pictures(self):
        # From one number to the one ahead of it there are as many presses as numbers, but one.
        display, camera = (2, 10, 10, "now"), (20, 10)
        numbers = [38, 37, 36, 35, 34, 33, 32, 31, 28, 27, 26, 25]
        film = [(index * 10 ** 28, picture_of(display, camera, (number, []), 0)) for index, number in enumerate(numbers)]
        for driver in ("now", "round"):
            display = (2, 10, 10, driver)
            with AtOnce():
                number, presses = called(history_paper, display, camera, 40, film)
            self.assertEqual(len(presses), 10 * 99 + 97)
            self.assertIs(called(shows_history, display, camera, 40, film, (number, presses)), True)
            for index, number in enumerate(numbers):
                # The right place is lit only in the last ten ticks of a picture: ahead of them a press is not seen.
                expected = [number - 1, number] if driver == "now" else [number]
                self.assertEqual(called(numbers_at, display, camera, 40, film, index), expected)

    def test_dark_films(self):
        film = [(20 * index, ["", ""]) for index in range(12)]
        with AtOnce():
            self.assertEqual(called(sure_numbers, DISPLAY, (20, 9), 20, film), [None] * 12)
            self.assertEqual(called(numbers_at, DISPLAY, (20, 9), 20, film, 11), list(range(100)))
            self.assertIs(called(shows_history, DISPLAY, (20, 9), 20, film, called(history_paper, DISPLAY, (20, 9), 20, film)), True)
        self.assertIs(type(called(sure_numbers, DISPLAY, (20, 8), 20, film)), Impossible)
        self.assertIsNone(called(history_paper, DISPLAY, (20, 8), 20, film))


class ShowsHistory(unittest.TestCase):
    def shows(self, value, film=FILM, gap=20):
        return called(shows_history, DISPLAY, CAMERA, gap, film, value)

    def test_presses_one_by_one(self):
        pictures = PicturesByTurns(DISPLAY, CAMERA)
        for press in range(-3, 45):
            for number in (9, 10, 18, 19, 20):
                expected = all(pictures.picture((number, [press]), begin) == picture for begin, picture in FILM)
                self.assertIs(self.shows((number, [press])), expected, (number, press))

    def test_presses_that_are_moved_left_out_or_put_in(self):
        history = (19, [5, 45])
        film = [(begin, picture_of(DISPLAY, CAMERA, history, begin)) for begin in (0, 20, 40)]
        self.assertIs(self.shows(history, film), True)
        for value, expected in [
            ((19, [5]), False), ((19, [45]), False), ((19, []), False), ((20, [5, 45]), False), ((19, [5, 60]), False),
            ((19, [5, 46]), True), ((19, [4, 45]), False), ((19, [14, 45]), False), ((19, [-1, 5, 45]), False),
            ((18, [-15, 5, 45]), True), ((18, [-14, 5, 45]), False), ((18, [-14, 6, 45]), True), ((19, [5, 45, 65]), True),
            ((19, [5, 45, 64]), False), ((19, [5, 25, 45]), False), ((18, [-10 ** 29, 5, 45]), True),
            ((19, [5, 45, 10 ** 29]), True), ((17, [-10 ** 29, 19 - 10 ** 29, 5, 45]), False),
            ((17, [-10 ** 29, 20 - 10 ** 29, 5, 45]), True),
        ]:
            self.assertIs(self.shows(value, film), expected, value)

    def test_gaps(self):
        film = [(0, TEN)]
        for gap in (20, 21, 1000, 10 ** 29):
            for more in (-1, 0, 1):
                self.assertIs(self.shows((10, [19 + 1, 20 + gap + more]), film, gap), more >= 0)
        self.assertIs(self.shows((10, [20, 40, 59]), film), False)
        self.assertIs(self.shows((10, [20 * index for index in range(1, 1201)]), film), True)
        self.assertIs(self.shows((10, [20 * index for index in range(1, 1202)]), film), False)

    def test_values_of_all_kinds(self):
        for value in [
            None, (), (19, ), (19, [5], 0), [19, [5]], (19, (5, )), (19, 5), ("19", [5]), (19, ["5"]), (19, [5.0]), (19, [None]),
            (100, [5]), (-1, [5]), (19, [5, 5]), (19, [25, 5]), (True, [5]), (19.0, [5]), (19, None), ([19], [5]), "19: 5",
            19, [], {}, "", *STRANGE, *[(19, value) for value in STRANGE], *[(value, [5]) for value in STRANGE],
            *[(19, [value]) for value in STRANGE],
        ]:
            self.assertIs(self.shows(value), False, repr(value))
        self.assertIs(self.shows((19, [5])), True)
        # True is 1 to Python.
        self.assertIs(self.shows((19, [True, 40]), [(0, TEN)]), False)


class Answers(unittest.TestCase):
    def test_wrong_indexes(self):
        for index in (-1, 2, 12, 10 ** 30, *NO_INTEGERS):
            self.assertIs(type(called(numbers_at, DISPLAY, CAMERA, 20, FILM, index)), InvalidNumber, repr(index))
            # A film that nothing fits does not matter ahead of that.
            self.assertIs(type(called(numbers_at, DISPLAY, CAMERA, 20, [FILM[0], (20, THIRTY)], index)), InvalidNumber)
        for index in (0, 1):
            self.assertIs(type(called(numbers_at, DISPLAY, CAMERA, 20, [FILM[0], (20, THIRTY)], index)), Impossible)

    def test_wrong_gaps_and_films(self):
        functions = [
            lambda gap, film: called(numbers_at, DISPLAY, CAMERA, gap, film, 0),
            lambda gap, film: called(sure_numbers, DISPLAY, CAMERA, gap, film),
            lambda gap, film: called(history_paper, DISPLAY, CAMERA, gap, film),
            lambda gap, film: called(shows_history, DISPLAY, CAMERA, gap, film, (19, [5])),
        ]
        for function in functions:
            for gap in (19, 0, -1, *NO_INTEGERS):
                self.assertIs(type(function(gap, None)), InvalidNumber)
            for film, index in [
                (None, None), (tuple(FILM), None), (FILM * 7, None), ([*FILM, 5], 2), ([FILM[1], FILM[0]], 1),
                ([(0, TEN), (19, TWENTY)], 1), ([(0, ["bc", "cb"])], 0), ([(0, TEN), (20, ["g"])], 1), ([(True, TEN)], 0),
                *[(value, None) for value in STRANGE], *[([value], 0) for value in STRANGE],
            ]:
                error = function(20, film)
                self.assertIs(type(error), InvalidFilm, repr(film))
                self.assertEqual(error.index, index, repr(film))

    def test_answers_are_new_lists(self):
        for answer in [
            lambda: numbers_at(DISPLAY, CAMERA, 20, FILM, 0), lambda: sure_numbers(DISPLAY, CAMERA, 20, FILM),
            lambda: history_paper(DISPLAY, CAMERA, 20, FILM), lambda: history_paper(DISPLAY, CAMERA, 20, []),
        ]:
            one, other = answer(), answer()
            self.assertEqual(one, other)
            self.assertEqual(len({id(some) for some in lists_in(one) + lists_in(other)}), 2)
            lists_in(one)[0].append(7)
            self.assertEqual(answer(), other)


if __name__ == "__main__":
    unittest.main()
