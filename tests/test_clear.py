"""Points 10, 11, 16 and 17."""

import random
import unittest

from litdigits import clear
from litdigits.clear import (
    clear_begins, dark_paper, greatest_need, greatest_slot, is_clear, least_exposure, least_lit, seen_begins,
    seen_places, shows_dark,
)
from litdigits.displays import lit_ticks
from litdigits.errors import InvalidNumber, InvalidPlace, InvalidTick
from tests.helper import (
    NO_INTEGERS, STRANGE, AtOnce, called, cameras_around, clear_by_turns, lists_in, lit_count, small_displays,
    stretches_of,
)

DISPLAY = (3, 10, 8, "now")
SMALL = [display for display in small_displays(8, 3) if display[3] == "now"] + [(2, 5, 3, "round"), (1, 7, 7, "round")]


def great_displays():
    """Displays with slots of 27 digits, and cameras with exposures of up to 29 digits that see them in part."""
    choice = random.Random(16)
    for places in (1, 2, 3, 5, 8):
        for _ in range(8):
            slot = choice.randrange(10 ** 26, 10 ** 27)
            lit = choice.choice([1, slot, slot - 1, choice.randrange(1, slot), choice.randrange(1, slot)])
            turn = places * slot
            exposure = choice.choice([choice.randrange(1, 10 ** 29), choice.randrange(1, 2 * turn), 3 * turn - 1, turn])
            whole, rest = divmod(exposure, turn)
            least, most = max(0, rest + lit - turn), min(rest, lit)
            for more in {least, least + 1, (least + most) // 2, most, most + 1}:
                yield (places, slot, lit, choice.choice(["now", "round"])), (exposure, max(1, whole * lit + more))


def seen_at(display, camera, place, begin):
    return lit_ticks(display, place, begin, begin + camera[0]) >= camera[1]


def clear_at_turns(display, camera):
    """Whether place 0 is seen at all begins at which the number of its lit ticks can begin to change, and beside them."""
    turn, lit, exposure = display[0] * display[1], display[2], camera[0]
    edges = [0, lit, -exposure % turn, (lit - exposure) % turn]
    return all(seen_at(display, camera, 0, edge + past) for edge in edges for past in (-1, 0, 1))


class SeenPlaces(unittest.TestCase):
    def test_against_counting(self):
        for display in SMALL:
            turn = display[0] * display[1]
            for camera in cameras_around(display):
                seen = clear_by_turns(display, camera)
                for begin in range(-turn, turn + 1):
                    self.assertEqual(seen_places(display, camera, begin), seen[begin % turn], (display, camera, begin))

    def test_begins_far_away(self):
        choice = random.Random(10)
        for display in SMALL:
            turn = display[0] * display[1]
            for camera in choice.sample(cameras_around(display), 6):
                seen = clear_by_turns(display, camera)
                for many in (-10 ** 28 - 1, 10 ** 28 + 3):
                    for begin in range(turn):
                        self.assertEqual(seen_places(display, camera, begin + many * turn), seen[begin])

    def test_the_examples_tick_by_tick(self):
        for begin in range(-65, 95):
            expected = [place for place in range(3) if lit_count(DISPLAY, place, begin, begin + 20) >= 8]
            self.assertEqual(called(seen_places, DISPLAY, (20, 8), begin), expected)

    def test_exposure_of_a_single_tick(self):
        for begin in range(-30, 60):
            expected = [place for place in range(3) if lit_count(DISPLAY, place, begin, begin + 1)]
            self.assertEqual(seen_places(DISPLAY, (1, 1), begin), expected)
            self.assertEqual(seen_places(DISPLAY, (1, 2), begin), [])

    def test_wrong_begins(self):
        for begin in NO_INTEGERS:
            self.assertIs(type(called(seen_places, DISPLAY, (20, 8), begin)), InvalidTick, repr(begin))


class Begins(unittest.TestCase):
    def test_seen_begins_against_all_begins(self):
        for display in SMALL:
            for camera in cameras_around(display):
                seen = clear_by_turns(display, camera)
                for place in range(display[0]):
                    expected = stretches_of([begin for begin, places in enumerate(seen) if place in places])
                    self.assertEqual(seen_begins(display, camera, place), expected, (display, camera, place))

    def test_clear_begins_against_all_begins(self):
        for display in [*SMALL, (4, 6, 5, "now"), (3, 9, 8, "now"), (8, 5, 5, "now")]:
            for camera in cameras_around(display):
                seen = clear_by_turns(display, camera)
                expected = stretches_of([begin for begin, places in enumerate(seen) if len(places) == display[0]])
                self.assertEqual(clear_begins(display, camera), expected, (display, camera))

    def test_stretches_at_the_ends_of_the_round(self):
        # A stretch that goes on from round - 1 to 0 is two stretches; without a dark begin it is only one.
        self.assertEqual(called(seen_begins, DISPLAY, (29, 8), 0), [(0, 0), (9, 29)])
        self.assertEqual(called(seen_begins, DISPLAY, (29, 8), 2), [(0, 20), (29, 29)])
        self.assertEqual(called(seen_begins, DISPLAY, (30, 8), 2), [(0, 29)])
        self.assertEqual(called(seen_begins, DISPLAY, (30, 9), 2), [])
        self.assertEqual(called(seen_begins, DISPLAY, (8, 8), 0), [(0, 0)])
        self.assertEqual(called(seen_begins, DISPLAY, (9, 8), 0), [(0, 0), (29, 29)])
        self.assertEqual(called(clear_begins, DISPLAY, (30, 8)), [(0, 29)])

    def test_ends_of_stretches_of_great_displays(self):
        for display, camera in great_displays():
            turn = display[0] * display[1]
            for place in range(display[0]):
                stretches = called(seen_begins, display, camera, place)
                self.check_ends(stretches, turn, lambda begin: seen_at(display, camera, place, begin))

    def test_ends_of_clear_stretches_of_great_displays(self):
        for display, camera in great_displays():
            stretches = called(clear_begins, display, camera)
            turn = display[0] * display[1]
            self.check_ends(stretches, turn, lambda begin: len(seen_places(display, camera, begin)) == display[0])

    def check_ends(self, stretches, turn, holds):
        """Compares at the ends of the stretches, beside them and anywhere; the stretches ascend, with gaps between."""
        bounds = [end for stretch in stretches for end in stretch]
        self.assertEqual(bounds, sorted(bounds))
        for (_, greatest), (least, _) in zip(stretches, stretches[1:]):
            self.assertGreater(least, greatest + 1)
        choice = random.Random(turn)
        begins = [end + past for end in bounds for past in (-1, 0, 1)] + [0, turn - 1, choice.randrange(turn)]
        for begin in begins:
            if 0 <= begin < turn:
                inside = any(least <= begin <= greatest for least, greatest in stretches)
                self.assertIs(holds(begin), inside, begin)

    def test_wrong_places(self):
        for place in (-1, 3, 4, 8, 10 ** 30, -10 ** 30, *NO_INTEGERS):
            self.assertIs(type(called(seen_begins, DISPLAY, (29, 8), place)), InvalidPlace, repr(place))
        for places in range(1, 9):
            display = (places, 2, 1, "now")
            self.assertEqual(called(seen_begins, display, (2 * places, 1), places - 1), [(0, 2 * places - 1)])
            self.assertIs(type(called(seen_begins, display, (2 * places, 1), places)), InvalidPlace)


class Clear(unittest.TestCase):
    def test_against_all_begins(self):
        for display in SMALL:
            for camera in cameras_around(display):
                expected = all(len(places) == display[0] for places in clear_by_turns(display, camera))
                self.assertIs(called(is_clear, display, camera), expected, (display, camera))

    def test_dark_paper_against_all_begins(self):
        for display in SMALL:
            for camera in cameras_around(display):
                seen = clear_by_turns(display, camera)
                paper = called(dark_paper, display, camera)
                if all(len(places) == display[0] for places in seen):
                    self.assertIsNone(paper)
                    continue
                begin, place = paper
                self.assertIn(begin, range(len(seen)))
                self.assertIn(place, range(display[0]))
                self.assertNotIn(place, seen[begin])
                self.assertIs(type(paper), tuple)
                self.assertIs(shows_dark(display, camera, paper), True)
                self.assertEqual(dark_paper(display, camera), paper)

    def test_great_displays(self):
        both = {True: 0, False: 0}
        for display, camera in great_displays():
            answer = called(is_clear, display, camera)
            both[answer] += 1
            self.assertIs(answer, clear_at_turns(display, camera), (display, camera))
            paper = called(dark_paper, display, camera)
            self.assertIs(paper is None, answer)
            if paper is not None:
                self.assertFalse(seen_at(display, camera, paper[1], paper[0]))
                self.assertIs(called(shows_dark, display, camera, paper), True)
        self.assertGreater(min(both.values()), 20)

    def test_shows_dark_against_counting(self):
        for display in SMALL[::3]:
            turn = display[0] * display[1]
            for camera in cameras_around(display)[::4]:
                seen = clear_by_turns(display, camera)
                for begin in range(-2, turn + 3):
                    for place in range(-2, display[0] + 2):
                        expected = 0 <= begin < turn and 0 <= place < display[0] and place not in seen[begin]
                        self.assertIs(shows_dark(display, camera, (begin, place)), expected)

    def test_shows_dark_at_and_beyond_the_round(self):
        # Begun at 1 the place 0 is dark, and so it is at 1 more than each multiple of the round.
        for begin in (-29, 31, 61, 30 * 10 ** 28 + 1, -30 * 10 ** 28 + 1, 30, -1):
            self.assertIs(called(shows_dark, DISPLAY, (29, 8), (begin, 0)), False)
        for begin in range(30):
            self.assertIs(called(shows_dark, DISPLAY, (29, 8), (begin, 0)), 1 <= begin <= 8)
            self.assertIs(called(shows_dark, DISPLAY, (30, 8), (begin, 0)), False)
            self.assertIs(called(shows_dark, DISPLAY, (30, 9), (begin, 0)), True)

    def test_shows_dark_for_values_of_all_kinds(self):
        # With this camera every begin and place is dark, so that only the kind of the value decides.
        camera = (1, 2)
        self.assertIs(shows_dark(DISPLAY, camera, (1, 1)), True)
        for value in [
            [1, 1], [(1, 1)], ((1, 1),), (), (1,), (1, 1, 1), (1, 1, None), (True, 1), (1, True), (False, 0), (0, False),
            (True, True), ("1", 1), (1, "1"), (1.0, 1), (1, 1.0), (None, 1), (1, None), ([1], 1), (1, [1]), "11", b"11",
            {1: 1}, {0: 1, 1: 1}, 1, 0, "", [], *STRANGE, *[(some, 1) for some in STRANGE], *[(1, some) for some in STRANGE],
        ]:
            self.assertIs(called(shows_dark, DISPLAY, camera, value), False, repr(value))
        for place in (-1, 3, 8, 10 ** 30):
            self.assertIs(called(shows_dark, DISPLAY, camera, (1, place)), False)


class LeastAndGreatest(unittest.TestCase):
    def clear(self, display, camera):
        return all(len(places) == display[0] for places in clear_by_turns(display, camera))

    def test_least_exposure_by_trying_all(self):
        for display in SMALL:
            exposure = 1
            for need in range(1, 3 * display[2] + 2):
                while not self.clear(display, (exposure, need)):
                    exposure += 1
                self.assertEqual(called(least_exposure, display, need), exposure, (display, need))

    def test_greatest_need_by_trying_all(self):
        for display in SMALL:
            need = 0
            for exposure in range(1, 3 * display[0] * display[1] + 2):
                while self.clear(display, (exposure, need + 1)):
                    need += 1
                self.assertEqual(called(greatest_need, display, exposure), need, (display, exposure))

    def test_least_lit_by_trying_all(self):
        for places, slot, lit, driver in [*SMALL, (2, 6, 3, "now"), (1, 8, 2, "now"), (3, 5, 5, "round")]:
            for camera in cameras_around((places, slot, lit, driver)):
                expected = [some for some in range(1, slot + 1) if self.clear((places, slot, some, driver), camera)]
                answer = called(least_lit, (places, slot, lit, driver), camera)
                self.assertEqual(answer, expected[0] if expected else None, (places, slot, camera))

    def test_greatest_slot_by_trying_all(self):
        for places, slot, lit, driver in [*SMALL, (2, 6, 3, "now"), (1, 8, 2, "now"), (2, 9, 5, "round")]:
            for exposure in (1, 2, 5, 11, 12, 24, 33):
                for need in (1, 2, lit - 1, lit, lit + 1, 2 * lit, 2 * lit + 1, 5 * lit, 10 ** 29):
                    if need < 1:
                        continue
                    expected = None
                    # With a slot as long as the exposure a place can be dark all the time, but with a single place.
                    for some in range(lit, exposure + lit + 2):
                        if self.clear((places, some, lit, driver), (exposure, need)):
                            expected = some
                    answer = called(greatest_slot, (places, slot, lit, driver), (exposure, need))
                    self.assertEqual(answer, expected, (places, lit, exposure, need))

    def test_need_much_greater_than_lit(self):
        display = (2, 10 ** 6, 3, "now")
        for camera in [(10 ** 29, 10 ** 27), (10 ** 29 + 7, 3 * 10 ** 27 + 1), (6 * 10 ** 27, 3 * 10 ** 27)]:
            slot = called(greatest_slot, display, camera)
            self.assertTrue(clear_at_turns((2, slot, 3, "now"), camera))
            self.assertFalse(clear_at_turns((2, slot + 1, 3, "now"), camera))
        self.assertEqual(called(greatest_slot, display, (6 * 10 ** 27, 3 * 10 ** 27)), 3)
        self.assertIsNone(called(greatest_slot, display, (6 * 10 ** 27 - 1, 3 * 10 ** 27)))
        self.assertIsNone(called(greatest_slot, display, (10 ** 29, 10 ** 29 + 1)))

    def test_exposure_and_need_of_29_digits(self):
        for (places, slot, lit, driver), (exposure, need) in great_displays():
            display = (places, slot, lit, driver)
            least = called(least_exposure, display, need)
            self.assertTrue(clear_at_turns(display, (least, need)))
            self.assertFalse(least > 1 and clear_at_turns(display, (least - 1, need)))
            greatest = called(greatest_need, display, exposure)
            self.assertTrue(greatest == 0 or clear_at_turns(display, (exposure, greatest)))
            self.assertFalse(clear_at_turns(display, (exposure, greatest + 1)))
            # The promise of point 4.
            self.assertIs(is_clear(display, (exposure, need)), need <= greatest)

    def test_lit_and_slot_of_27_digits(self):
        found = {None: 0, "some": 0}
        for (places, slot, lit, driver), camera in great_displays():
            least = called(least_lit, (places, slot, lit, driver), camera)
            found[None if least is None else "some"] += 1
            if least is None:
                self.assertFalse(clear_at_turns((places, slot, slot, driver), camera))
            else:
                self.assertTrue(clear_at_turns((places, slot, least, driver), camera))
                self.assertFalse(least > 1 and clear_at_turns((places, slot, least - 1, driver), camera))
            greatest = called(greatest_slot, (places, slot, lit, driver), camera)
            if greatest is None:
                self.assertFalse(clear_at_turns((places, lit, lit, driver), camera))
            else:
                self.assertGreaterEqual(greatest, lit)
                self.assertTrue(clear_at_turns((places, greatest, lit, driver), camera))
                self.assertFalse(clear_at_turns((places, greatest + 1, lit, driver), camera))
        self.assertGreater(min(found.values()), 5)

    def test_lit_up_to_slot_is_not_enough(self):
        for camera, expected in [((18, 8), None), ((28, 8), 10), ((27, 8), None), ((29, 10), None), ((30, 10), 10), ((30, 11), None)]:
            self.assertEqual(called(least_lit, DISPLAY, camera), expected, camera)
        self.assertEqual(called(least_lit, (1, 1, 1, "now"), (1, 1)), 1)
        self.assertIsNone(called(least_lit, (1, 1, 1, "now"), (1, 2)))
        self.assertEqual(called(least_lit, DISPLAY, (60, 1)), 1)

    def test_no_need_at_all(self):
        self.assertEqual(called(greatest_need, DISPLAY, 1), 0)
        self.assertEqual(called(greatest_need, (1, 5, 5, "now"), 1), 1)
        self.assertEqual(called(greatest_need, (8, 10 ** 29, 1, "now"), 8 * 10 ** 29 - 1), 0)
        self.assertEqual(called(greatest_need, (8, 10 ** 29, 1, "now"), 8 * 10 ** 29), 1)

    def test_own_lit_and_slot_change_nothing(self):
        for camera in [(29, 8), (30, 8), (60, 9), (20, 8)]:
            self.assertEqual(len({least_lit((3, 10, lit, "now"), camera) for lit in range(1, 11)}), 1)
            self.assertEqual(len({greatest_slot((3, slot, 8, "round"), camera) for slot in (8, 9, 10, 500)}), 1)

    def test_wrong_needs_and_exposures(self):
        for value in (0, -1, -10 ** 30, *NO_INTEGERS):
            self.assertIs(type(called(least_exposure, DISPLAY, value)), InvalidNumber, repr(value))
            self.assertIs(type(called(greatest_need, DISPLAY, value)), InvalidNumber, repr(value))


class Answers(unittest.TestCase):
    def test_each_list_is_new(self):
        calls = [(seen_places, (29, 8), 5), (seen_begins, (29, 8), 1), (clear_begins, (29, 8)), (clear_begins, (20, 8))]
        for function, *values in calls:
            answers = [function(DISPLAY, *values) for _ in range(3)]
            self.assertEqual(len({id(some) for answer in answers for some in lists_in(answer)}), 3)
            earlier = list(answers[0])
            answers[0].append("changed")
            answers[1].clear()
            self.assertEqual(answers[2], earlier)
            self.assertEqual(function(DISPLAY, *values), earlier)

    def test_the_driver_changes_nothing(self):
        for camera in [(29, 8), (30, 8), (20, 8), (61, 10)]:
            one, other = (3, 10, 8, "now"), (3, 10, 8, "round")
            self.assertEqual(clear_begins(one, camera), clear_begins(other, camera))
            self.assertEqual(dark_paper(one, camera), dark_paper(other, camera))
            self.assertEqual(least_lit(one, camera), least_lit(other, camera))
            for begin in range(30):
                self.assertEqual(seen_places(one, camera, begin), seen_places(other, camera, begin))

    def test_answered_at_once(self):
        display, camera = (8, 10 ** 26 + 7, 10 ** 26 - 3, "now"), (10 ** 28 + 9, 12 * 10 ** 26)
        with AtOnce():
            for begin in range(300):
                seen_places(display, camera, begin * 10 ** 26)
                clear_begins(display, camera)
                shows_dark(display, camera, dark_paper(display, camera))
                least_lit(display, camera)
                greatest_slot(display, (10 ** 29, 10 ** 29 - begin))

    def test_arguments_by_name(self):
        self.assertEqual(seen_places(begin=0, camera=(20, 8), display=DISPLAY), [0, 1])
        self.assertIs(is_clear(camera=(30, 8), display=DISPLAY), True)
        self.assertEqual(seen_begins(place=1, camera=(29, 8), display=DISPLAY), [(0, 10), (19, 29)])
        self.assertEqual(clear_begins(camera=(20, 8), display=DISPLAY), [])
        self.assertIsNone(dark_paper(camera=(30, 8), display=DISPLAY))
        self.assertIs(shows_dark(value=(1, 0), camera=(29, 8), display=DISPLAY), True)
        self.assertEqual(least_exposure(need=9, display=DISPLAY), 53)
        self.assertEqual(greatest_need(exposure=60, display=DISPLAY), 16)
        self.assertEqual(least_lit(camera=(29, 8), display=DISPLAY), 9)
        self.assertEqual(greatest_slot(camera=(60, 9), display=DISPLAY), 11)

    def test_defined_here(self):
        for name in ["seen_places", "is_clear", "seen_begins", "clear_begins", "dark_paper", "shows_dark",
                     "least_exposure", "greatest_need", "least_lit", "greatest_slot"]:
            self.assertEqual(getattr(clear, name).__module__, "litdigits.clear")


if __name__ == "__main__":
    unittest.main()
