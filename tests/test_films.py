"""Point 24."""

import random
import unittest

from litdigits.errors import InvalidFilm, InvalidNumber
from litdigits.films import film_fits, first_misfit
from litdigits.pictures import picture_of
from tests.helper import (
    ALL_PATTERNS, NO_INTEGERS, STRANGE, AtOnce, called, films_by_turns, told_by_ticks,
)

DISPLAY, CAMERA = (2, 10, 8, "now"), (20, 4)
TEN, TWENTY, THIRTY = ["bc", "abcdef"], ["abdeg", "abcdef"], ["abcdg", "abcdef"]

# Display, camera, gap and begins: the least gap and greater ones, pictures with room between them and without.
SMALL = [
    ((1, 3, 3, "now"), (3, 1), 3, [0, 3, 6]),
    ((1, 3, 3, "now"), (3, 2), 4, [0, 3, 6]),
    ((1, 4, 3, "now"), (4, 2), 4, [-2, 2, 8]),
    ((1, 4, 3, "now"), (3, 1), 5, [1, 6, 9]),
    ((1, 4, 3, "now"), (5, 3), 7, [-7, 0, 7]),
    ((1, 5, 2, "now"), (4, 2), 4, [0, 4, 9]),
    ((1, 4, 4, "now"), (2, 1), 2, [0, 3, 6]),
    ((1, 3, 2, "round"), (4, 1), 7, [-1, 4, 10]),
    ((1, 3, 3, "round"), (4, 2), 7, [0, 4, 9]),
    ((1, 2, 2, "round"), (3, 1), 5, [1, 4, 8]),
    ((1, 2, 1, "round"), (5, 2), 8, [0, 5, 10]),
    ((1, 4, 3, "round"), (2, 1), 6, [3, 5, 7]),
    ((1, 1, 1, "now"), (1, 1), 1, [0, 2, 5]),
    ((1, 1, 1, "round"), (2, 1), 3, [0, 2, 7]),
]


def film_with(begins, pictures):
    return [(begin, list(picture)) for begin, picture in zip(begins, pictures)]


def some_films(every, choice, many):
    """Films of pictures that occur, in rows that occur and others; a few with a picture that occurs nowhere."""
    rows = sorted(every)
    columns = [sorted(set(column)) for column in zip(*rows)]
    found = choice.sample(rows, min(many, len(rows)))
    found += [tuple(choice.choice(column) for column in columns) for _ in range(many)]
    places = len(rows[0][0])
    for _ in range(many // 4):
        film = list(choice.choice(rows))
        film[choice.randrange(len(film))] = tuple(choice.choice(ALL_PATTERNS) for _ in range(places))
        found.append(tuple(film))
    return found


class AllHistories(unittest.TestCase):
    def compare(self, display, camera, gap, begins, many):
        every = films_by_turns(display, camera, gap, begins)
        choice = random.Random(24)
        told = {True: 0, False: 0}
        for pictures in some_films(every, choice, many):
            film = film_with(begins, pictures)
            fits = pictures in every
            self.assertIs(called(film_fits, display, camera, gap, film), fits, (display, camera, gap, film))
            begun = [{some[:length] for some in every} for length in range(len(film) + 1)]
            misfit = [length - 1 for length in range(1, len(film) + 1) if pictures[:length] not in begun[length]]
            expected = misfit[0] if misfit else None
            self.assertEqual(called(first_misfit, display, camera, gap, film), expected, (display, camera, gap, film))
            told[fits] += 1
        return told

    def test_films_of_one_to_three_pictures(self):
        for display, camera, gap, begins in SMALL:
            for length in (1, 2, 3):
                told = self.compare(display, camera, gap, begins[:length], 40)
                self.assertGreater(min(told.values()), 3, (display, camera, gap, begins))

    def test_two_places(self):
        for display, camera, gap, begins in [
            ((2, 2, 2, "now"), (4, 1), 4, [0, 4]), ((2, 2, 2, "now"), (4, 2), 5, [-1, 5]),
            ((2, 2, 1, "round"), (5, 1), 9, [0, 6]), ((2, 1, 1, "round"), (3, 1), 5, [0, 4]),
        ]:
            self.compare(display, camera, gap, begins, 60)

    def test_no_pictures(self):
        for display, camera, gap in [(DISPLAY, CAMERA, 20), ((1, 10, 1, "round"), (1, 100), 11)]:
            self.assertIs(called(film_fits, display, camera, gap, []), True)
            self.assertIsNone(called(first_misfit, display, camera, gap, []))

    def test_both_ways_of_going_through_all_histories(self):
        # What the longer films below are compared with is compared with all histories here.
        for display, camera, gap, begins in SMALL[::2]:
            every = films_by_turns(display, camera, gap, begins)
            for pictures in random.Random(3).sample(sorted(every), 6):
                self.assertEqual(told_by_ticks(display, camera, gap, film_with(begins, pictures)), every[pictures])


class LongerFilms(unittest.TestCase):
    def test_against_going_from_tick_to_tick(self):
        choice = random.Random(12)
        told = {True: 0, False: 0}
        for _ in range(60):
            slot = choice.randrange(2, 7)
            display = (1, slot, choice.randrange(1, slot + 1), choice.choice(["now", "round"]))
            exposure = choice.randrange(2, 2 * slot)
            camera = (exposure, choice.randrange(1, max(2, display[2])))
            gap = exposure + (slot if display[3] == "round" else 0) + choice.choice([0, 0, 1, 5])
            begins = [0]
            while len(begins) < 5:
                begins.append(begins[-1] + exposure + choice.choice([0, 0, 1, gap, 3 * gap, 8 * gap, 12 * gap]))
            history = self.drawn_history(choice, begins[-1] + exposure, gap)
            film = [(begin, picture_of(display, camera, history, begin)) for begin in begins]
            if choice.random() < 0.7:
                film[-1] = (film[-1][0], picture_of(display, camera, (choice.randrange(10), []), begins[-1]))
            misfits = [length - 1 for length in range(1, 6) if not told_by_ticks(display, camera, gap, film[:length])]
            expected = misfits[0] if misfits else None
            self.assertEqual(called(first_misfit, display, camera, gap, film), expected, (display, camera, gap, film))
            self.assertIs(called(film_fits, display, camera, gap, film), expected is None)
            told[expected is None] += 1
        self.assertGreater(min(told.values()), 10)

    def drawn_history(self, choice, end, gap):
        presses = [choice.randrange(-3, 9)]
        while presses[-1] < end:
            presses.append(presses[-1] + gap + choice.choice([0, 0, 1, gap, 4 * gap]))
        return (choice.randrange(10), presses)

    def test_twelve_pictures(self):
        choice = random.Random(7)
        for _ in range(20):
            display = (2, 10, 8, choice.choice(["now", "round"]))
            gap = 20 if display[3] == "now" else 40
            presses = [gap * index + 3 for index in range(40)]
            history = (choice.randrange(100), presses)
            film = [(begin, picture_of(display, CAMERA, history, begin)) for begin in range(0, 12 * 27, 27)]
            self.assertIs(called(film_fits, display, CAMERA, gap, film), True)
            later = [(begin, ["bcfg", "g"] if index == 7 else picture) for index, (begin, picture) in enumerate(film)]
            self.assertIs(called(film_fits, display, CAMERA, gap, later), False)
            self.assertEqual(called(first_misfit, display, CAMERA, gap, later), 7)


class Presses(unittest.TestCase):
    def number(self, value):
        """A picture of a steady number of a display with two places."""
        return picture_of(DISPLAY, CAMERA, (value, []), 0)

    def test_numbers_that_are_reached_in_time(self):
        # Steady from 0 to 19: the presses can be at 20, 40 and so on, and the last one must be ahead of the picture.
        for begin, steps in [(20, 1), (39, 1), (40, 2), (59, 2), (60, 3), (119, 5), (120, 6), (1980, 99), (2000, 100)]:
            for number in range(min(steps + 1, 100)):
                film = [(0, self.number(7)), (begin, self.number((7 + number) % 100))]
                self.assertIs(film_fits(DISPLAY, CAMERA, 20, film), True, (begin, number))
            self.assertIs(film_fits(DISPLAY, CAMERA, 20, [(0, self.number(27)), (begin, self.number(23))]), steps >= 95)

    def test_just_in_time(self):
        # All is lit in one tick, which is all that the camera sees: no picture is torn.
        for driver, turn in [("now", 0), ("round", 10)]:
            display, camera = (1, 10, 10, driver), (1, 1)
            for gap in (1 + turn, 13, 25, 10 ** 28):
                for steps in range(1, 10):
                    # The first press is shown behind tick 0, the last one at the begin of the later picture.
                    first = -9 if driver == "round" else 1
                    last = 10 + first + (steps - 1) * gap if turn else first + (steps - 1) * gap
                    begin = -(-last // 10) * 10 if turn else last
                    for later, fits in [(begin - 1, False), (begin, True), (begin + 1, True)]:
                        if later < 1:
                            continue
                        film = [(0, self.digit(4)), (later, self.digit((4 + steps) % 10))]
                        self.assertIs(called(film_fits, display, camera, gap, film), fits, (driver, gap, steps, later))

    def digit(self, value):
        return picture_of((1, 10, 10, "now"), (1, 1), (value, []), 0)

    def test_a_press_in_the_first_picture_hinders_the_next_ones(self):
        # The first picture shows what 1 and 2 have together, so the press is at 5. The next one can be a gap later.
        display, camera = (1, 10, 10, "now"), (10, 5)
        for gap in (11, 12, 30, 10 ** 28):
            # Torn at the sixth tick, too, or with a 4 from the fifth one on, behind a 3 that came at 5.
            for later, least in [("abcdeg", gap), ("bcfg", gap + 1)]:
                for begin in range(max(10, least - 2), least + 3):
                    film = [(0, ["abcdeg"]), (begin, [later])]
                    self.assertIs(called(film_fits, display, camera, gap, film), begin >= least, (gap, begin))

    def test_earlier_presses_are_as_good_as_none(self):
        # The count at the first picture can be any number, and nothing hinders a press in its span.
        display, camera = (1, 10, 10, "now"), (10, 5)
        for gap in (10, 1000, 10 ** 29):
            self.assertIs(called(film_fits, display, camera, gap, [(-10 ** 29, ["abcdeg"])]), True)

    def test_great_numbers(self):
        slot = 10 ** 28
        for driver, more in [("now", 0), ("round", 2 * slot)]:
            display, camera = (2, slot, 8 * slot // 10, driver), (2 * slot, 4 * slot // 10)
            gap = 2 * slot + more
            with AtOnce():
                for begin, later, fits in [(0, TWENTY, True), (0, THIRTY, False)]:
                    film = [(begin, TEN), (begin + 2 * slot, later)]
                    if driver == "now":
                        self.assertIs(called(film_fits, display, camera, gap, film), fits)
                far = [(0, TEN), (10 ** 30 - 1, THIRTY)]
                self.assertIs(called(film_fits, display, camera, gap, far), True)
                self.assertIs(called(film_fits, display, camera, 10 ** 30 - 1, far), False)

    def test_much_room_between_the_pictures(self):
        film = [(index * 10 ** 28, picture) for index, picture in enumerate([TEN, THIRTY, TWENTY, TEN, TEN, TWENTY])]
        for driver in ("now", "round"):
            with AtOnce():
                self.assertIs(called(film_fits, (2, 10, 8, driver), CAMERA, 40, film), True)
                self.assertIsNone(called(first_misfit, (2, 10, 8, driver), CAMERA, 40, film))

    def test_dark_films(self):
        # A camera that never sees anything: every history fits dark pictures, and none fits others.
        for gap in (20, 10 ** 28):
            film = [(index * 10 ** 28, ["", ""]) for index in range(12)]
            with AtOnce():
                self.assertIs(called(film_fits, DISPLAY, (20, 9), gap, film), True)
                self.assertIs(called(film_fits, DISPLAY, (20, 8), gap, film), False)
            self.assertEqual(called(first_misfit, DISPLAY, (20, 9), gap, [*film[:11], (10 ** 30 - 1, TEN)]), 11)


class Wrong(unittest.TestCase):
    def refused(self, gap, film, error_class, index=""):
        for function in (film_fits, first_misfit):
            error = called(function, DISPLAY, CAMERA, gap, film)
            self.assertIs(type(error), error_class, (gap, film))
            self.assertEqual(getattr(error, "index", ""), index, (gap, film))

    def test_gaps(self):
        for gap in (19, 0, -20, -10 ** 29, *NO_INTEGERS):
            self.refused(gap, None, InvalidNumber)
        for driver, exposure, least in [("now", 20, 20), ("now", 7, 7), ("round", 20, 40), ("round", 7, 27), ("round", 1, 21)]:
            display = (2, 10, 8, driver)
            self.assertIs(type(called(film_fits, display, (exposure, 1), least - 1, [])), InvalidNumber)
            self.assertIs(called(film_fits, display, (exposure, 1), least, []), True)
            self.assertIs(called(film_fits, display, (exposure, 1), 10 ** 30 - 1, []), True)

    def test_films(self):
        good = [(20 * index, TEN) for index in range(13)]
        self.assertIsNone(called(first_misfit, DISPLAY, CAMERA, 20, good[:12]))
        for film, index in [
            (None, None), (tuple(good[:2]), None), (good, None), ([None] * 13, None), ("", None), ({}, None),
            ([None], 0), ([[0, TEN]], 0), ([(0, )], 0), ([(0, TEN, TEN)], 0), ([()], 0), ([(0, TEN), 5], 1),
            ([("0", TEN)], 0), ([(True, TEN)], 0), ([(0.0, TEN)], 0), ([(None, TEN)], 0), ([(TEN, 0)], 0),
            ([(0, tuple(TEN))], 0), ([(0, ["bc"])], 0), ([(0, ["bc", "bc", "bc"])], 0), ([(0, ["bc", "cb"])], 0),
            ([(0, None)], 0), ([(0, [1, 0])], 0), ([(0, TEN), (19, TEN)], 1), ([(0, TEN), (0, TEN)], 1),
            ([(0, TEN), (-20, TEN)], 1), ([(0, TEN), (20, TEN), (39, TEN)], 2), ([(0, TEN), (19, TEN), None], 1),
            ([(0, TEN), (20, ["g"]), (20, TEN)], 1), ([*good[:11], (219, TEN)], 11),
        ]:
            self.refused(20, film, InvalidFilm, index)
        for value in STRANGE:
            self.refused(20, value, InvalidFilm, None)
            self.refused(20, [(0, TEN), value], InvalidFilm, 1)
            self.refused(20, [(0, TEN), (value, TEN)], InvalidFilm, 1)
            self.refused(20, [(0, TEN), (20, value)], InvalidFilm, 1)

    def test_the_exposure_is_the_least_way_between_two_begins(self):
        for exposure in (1, 2, 20, 10 ** 28):
            for more, good in [(-1, False), (0, True), (1, True), (10 ** 28, True)]:
                answer = called(first_misfit, DISPLAY, (exposure, 10 ** 29), exposure, [(-7, ["", ""]), (exposure + more - 7, ["", ""])])
                if good:
                    self.assertIsNone(answer)
                else:
                    self.assertIs(type(answer), InvalidFilm)
                    self.assertEqual(answer.index, 1)


if __name__ == "__main__":
    unittest.main()
