"""The examples of the document, as they stand there, in points 5 to 9 and 12 to 36."""

import doctest
import unittest

from litdigits.displays import is_lit, lit_place, round_of
from litdigits.errors import LitError
from litdigits.pictures import count_at, picture_of, reading_of, shown_at
from litdigits.segments import is_pattern, pattern_of

# The first words of a text are the point that it stands in.
EXAMPLES = {
    "12, patterns": """
>>> from litdigits.segments import digit_of, is_pattern, pattern_of
>>> [is_pattern(value) for value in ["abg", "", "ba", "aa", "h", None]]
[True, True, False, False, False, False]
>>> [pattern_of(4), digit_of("abc"), digit_of("abd"), digit_of("")]
['bcfg', 7, None, None]
""",
    "12, unions": """
>>> from litdigits.segments import common_of, torn_digit, union_of
>>> [union_of("abcdg", "bcfg"), common_of("abcdg", "bcfg")]
['abcdfg', 'bcg']
>>> [torn_digit(one, other) for one, other in [(3, 4), (4, 5), (6, 7), (9, 0), (1, 2), (5, 6), (2, 2)]]
[9, 9, 8, 8, None, 6, 2]
""",
    "12, lists": """
>>> from litdigits.segments import digits_about, digits_within
>>> [digits_within("abcdg"), digits_about("acd"), digits_within(""), digits_about("")]
[[1, 3, 7], [0, 3, 5, 6, 8, 9], [], [0, 1, 2, 3, 4, 5, 6, 7, 8, 9]]
""",
    "13, displays": """
>>> from litdigits.displays import is_display, is_lit, lit_place, round_of
>>> some = [(3, 10, 8, "now"), (9, 10, 8, "now"), (3, 10, 11, "now"), (3, 10, 8, "later"), [3, 10, 8, "now"]]
>>> [is_display(value) for value in some]
[True, False, False, False, False]
>>> display = (3, 10, 8, "now")
>>> [round_of(display), [is_lit(display, 1, tick) for tick in [9, 10, 17, 18, 40, -20]]]
[30, [False, True, True, False, True, True]]
>>> [lit_place(display, tick) for tick in [0, 8, 25, 29, -1, -5]]
[0, None, 2, None, None, 2]
""",
    "13, lit ticks": """
>>> from litdigits.displays import lit_ticks, nth_lit
>>> display = (3, 10, 8, "now")
>>> [lit_ticks(display, 1, 0, 15), lit_ticks(display, 1, 12, 45), lit_ticks(display, 0, 7, 7), lit_ticks(display, 0, -30, 10 ** 29)]
[5, 11, 0, 26666666666666666666666666680]
>>> [nth_lit(display, 1, 12, index) for index in [0, 5, 6]] + [nth_lit(display, 2, -100, 0), nth_lit(display, 1, 18, 0)]
[12, 17, 40, -100, 40]
""",
    "14": """
>>> from litdigits.pictures import count_at, is_history, shown_at
>>> display = (3, 10, 8, "round")
>>> [is_history(display, value) for value in [(199, [9]), (1000, []), (0, [5, 5]), (0, (5,)), (0, [])]]
[True, False, False, False, True]
>>> [(count_at(display, (199, [9]), tick), shown_at(display, (199, [9]), tick)) for tick in [8, 9, 29, 30]]
[(199, 199), (200, 199), (200, 199), (200, 200)]
>>> [count_at(display, (999, [-4, 7]), tick) for tick in [-5, -4, 7]]
[999, 0, 1]
""",
    "15, pictures": """
>>> from litdigits.pictures import picture_of, reading_of
>>> display = (3, 10, 8, "now")
>>> [picture_of(display, (30, need), (3, [24]), 0) for need in [4, 5, 9]]
[['abcdef', 'abcdef', 'abcdfg'], ['abcdef', 'abcdef', 'bcg'], ['', '', '']]
>>> [reading_of(display, picture_of(display, (30, 4), (199, [press]), 0)) for press in [0, 9, 24, 30]]
[200, 100, 198, 199]
>>> picture_of((3, 10, 8, "round"), (30, 4), (199, [1]), 15)
['abdeg', 'abcdef', 'abcdfg']
>>> picture_of((1, 10, 10, "now"), (10, 6), (8, [3, 7]), 0)
['abcdefg']
""",
    "15, films": """
>>> from litdigits.pictures import film_of
>>> film_of((3, 10, 8, "now"), (30, 4), (199, [9]), -30, 30, 3)
[['bc', 'abcdfg', 'abcdfg'], ['bc', 'abcdef', 'abcdef'], ['abdeg', 'abcdef', 'abcdef']]
""",
    "16": """
>>> from litdigits.clear import is_clear, seen_places
>>> display = (3, 10, 8, "now")
>>> [seen_places(display, (20, 8), begin) for begin in (0, 5, -30)]
[[0, 1], [1], [0, 1]]
>>> [is_clear(display, camera) for camera in [(30, 8), (29, 8), (29, 7)]]
[True, False, True]

>>> from litdigits.clear import clear_begins, seen_begins
>>> display = (3, 10, 8, "now")
>>> [seen_begins(display, (29, 8), 1), clear_begins(display, (29, 8)), clear_begins(display, (20, 8))]
[[(0, 10), (19, 29)], [(0, 0), (9, 10), (19, 20), (29, 29)], []]

>>> from litdigits.clear import dark_paper, shows_dark
>>> display = (3, 10, 8, "now")
>>> [shows_dark(display, (29, 8), value) for value in [(1, 0), (0, 0), (31, 0), (1, 3)]]
[True, False, False, False]
>>> dark_paper(display, (30, 8)) is None
True
""",
    "17": """
>>> from litdigits.clear import greatest_need, least_exposure
>>> display = (3, 10, 8, "now")
>>> [least_exposure(display, need) for need in (4, 8, 9)]
[26, 30, 53]
>>> [greatest_need(display, exposure) for exposure in (22, 23, 30, 60)]
[0, 1, 8, 16]

>>> from litdigits.clear import greatest_slot, least_lit
>>> display = (3, 10, 8, "now")
>>> [least_lit(display, camera) for camera in [(29, 8), (30, 8), (20, 8)]]
[9, 8, None]
>>> [greatest_slot(display, camera) for camera in [(30, 8), (60, 8), (60, 9), (20, 8)]]
[10, 20, 11, None]
""",
    "18": """
>>> from litdigits.drift import first_clear, first_dark
>>> display, camera = (3, 10, 8, "now"), (29, 8)
>>> [first_dark(display, camera, first, period) for first, period in [(0, 31), (0, 10), (9, 10), (5, 1)]]
[1, None, None, 0]
>>> [first_clear(display, camera, first, period) for first, period in [(1, 31), (5, 10), (20, 7)]]
[8, None, 0]

>>> from litdigits.drift import clear_firsts, count_dark
>>> display, camera = (3, 10, 8, "now"), (29, 8)
>>> [count_dark(display, camera, 0, 31, many) for many in (0, 1, 30, 10 ** 20)]
[0, 0, 24, 80000000000000000000]
>>> [clear_firsts(display, camera, 10), clear_firsts(display, camera, 31), clear_firsts(display, (30, 8), 31)]
[(10, [(0, 0), (9, 9)]), (1, []), (1, [(0, 0)])]
""",
    "19": """
>>> from litdigits.torn import press_span
>>> [press_span((3, 10, 8, driver), (30, 4), begin) for driver, begin in [("now", 0), ("round", 15), ("round", 0)]]
[(1, 29), (1, 30), None]

>>> from litdigits.torn import torn_pictures
>>> torn_pictures((1, 10, 8, "now"), (10, 4), 3, 0)
[(1, 3, ['bcfg']), (4, 4, ['abcdfg']), (5, 9, ['abcdg'])]

>>> from litdigits.torn import torn_readings
>>> display = (3, 10, 8, "now")
>>> [torn_readings(display, (30, need), 3, 0) for need in (4, 5)]
[[(1, 23, 4), (24, 24, 9), (25, 29, 3)], [(1, 23, 4), (24, 24, None), (25, 29, 3)]]
>>> torn_readings(display, (30, 4), 199, 0)
[(1, 3, 200), (4, 4, None), (5, 13, 100), (14, 14, 180), (15, 23, 190), (24, 24, 198), (25, 29, 199)]
>>> torn_readings((3, 10, 8, "round"), (30, 4), 199, 15)
[(1, 30, 209)]
""",
    "20": """
>>> from litdigits.torn import place_thresholds
>>> display = (3, 10, 8, "now")
>>> [place_thresholds(display, camera, 2, 0) for camera in [(30, 4), (30, 5), (20, 8)]]
[(24, 24), (25, 23), None]
""",
    "21": """
>>> from litdigits.lies import kind_of, lies_at
>>> display = (3, 10, 8, "now")
>>> [kind_of(display, number) for number in (120, 129, 199, 999)]
[(0, 0), (1, 2), (2, 1), (3, 9)]
>>> lies_at(display, (30, 4), 199, 0)
[(5, 13, 100), (14, 14, 180), (15, 23, 190), (24, 24, 198)]

>>> from litdigits.lies import can_lie
>>> display = (3, 10, 8, "now")
>>> [can_lie(display, (30, 4), 3), can_lie(display, (30, 5), 3), can_lie(display, (30, 5), 9)]
[True, False, True]
""",
    "22": """
>>> from litdigits.lies import lie_paper, shows_lie
>>> display = (3, 10, 8, "now")
>>> [shows_lie(display, (30, 4), 199, value) for value in [(0, 10), (0, 3), (30, 40), (0, 4), (0,)]]
[True, False, True, False, False]
>>> lie_paper(display, (30, 5), 3) is None
True

>>> from litdigits.lies import is_truthful, lying_kinds
>>> display = (3, 10, 8, "now")
>>> [kind for kind in lying_kinds(display, (30, 4)) if kind[0] == 0], len(lying_kinds(display, (30, 5)))
([(0, 3), (0, 4), (0, 6)], 19)
>>> [is_truthful((1, 10, 8, "now"), (10, need)) for need in (4, 5)]
[False, True]
""",
    "23": """
>>> from litdigits.explained import explanations_of, is_explained, numbers_behind
>>> display, camera, picture = (3, 10, 8, "now"), (30, 4), ["bc", "abdeg", "abcdfg"]
>>> explanations_of(display, camera, 0, picture)
[(123, (24, 24)), (124, (24, 24)), (128, (1, 23)), (129, None), (129, (25, 29))]
>>> [numbers_behind(display, camera, 0, picture), is_explained(display, camera, 0, ["", "", ""])]
[[123, 124, 128, 129], False]
""",
    "24": """
>>> from litdigits.films import film_fits, first_misfit
>>> display, camera = (2, 10, 8, "now"), (20, 4)
>>> ten, twenty, thirty = ["bc", "abcdef"], ["abdeg", "abcdef"], ["abcdg", "abcdef"]
>>> [film_fits(display, camera, 20, [(0, ten), (20, later)]) for later in (ten, twenty, thirty)]
[True, True, False]
>>> [first_misfit(display, camera, 20, film) for film in ([(0, ten), (20, twenty)], [(0, ten), (20, thirty)], [(0, [""] * 2)])]
[None, 1, 0]
""",
    "25": """
>>> from litdigits.told import numbers_at, shows_history, sure_numbers
>>> display, camera = (2, 10, 8, "now"), (20, 4)
>>> ten, twenty = ["bc", "abcdef"], ["abdeg", "abcdef"]
>>> film = [(0, ten), (20, twenty)]
>>> [numbers_at(display, camera, 20, film[:1], 0), numbers_at(display, camera, 20, film, 0), sure_numbers(display, camera, 20, film)]
[[9, 10, 19], [19], [19, 20]]
>>> some = [(19, [5]), (19, [4]), (10, []), (19, [13, 34]), (19, [13, 32])]
>>> [shows_history(display, camera, 20, film, value) for value in some]
[True, False, False, True, False]
""",
    "26": """
>>> from litdigits.paces import number_row, paced_count, paced_history
>>> display, counter = (3, 10, 8, "now"), (5, 0, 7)
>>> [paced_count(display, counter, tick) for tick in (-1, 0, 6, 7, 7000, 7 * 10 ** 28)]
[4, 5, 5, 6, 5, 5]
>>> [number_row(display, counter, 0, 30, 5), paced_history(display, counter, 10, 30), paced_history(display, counter, 14, 20)]
[[5, 9, 13, 17, 22], (6, [14, 21, 28]), (7, [])]
""",
    "27": """
>>> from litdigits.paces import count_steps, first_step, row_again, seen_steps
>>> display, counter = (3, 10, 8, "now"), (5, 0, 7)
>>> [seen_steps(display, 7, 30), seen_steps(display, 7, 28), seen_steps(display, 1, 999), seen_steps(display, 3, 2999)]
[[4, 5], [4], [999], [0, 999]]
>>> [first_step(display, counter, 0, 30, step) for step in (4, 5, 6)]
[0, 3, None]
>>> [count_steps(display, counter, 0, 30, 5, many) for many in (3, 4, 7, 10 ** 20)]
[0, 1, 2, 28571428571428571428]
>>> [row_again(display, 7, 30), row_again(display, 7, 7000), row_again(display, 1, 999)]
[700, 1, 1000]
""",
    "28, 1": """
>>> from litdigits.faults import can_tell, digits_alike, read_with, seen_with
>>> some = [("", ""), ("g", ""), ("b", "e"), ("abcdefg", "")]
>>> [seen_with(faults, 3) for faults in some]
['abcdg', 'abcd', 'acdeg', '']
>>> [digits_alike(faults) for faults in some]
[[], [[0, 8]], [[5, 6, 8, 9]], [[0, 1, 2, 3, 4, 5, 6, 7, 8, 9]]]
>>> [[can_tell(faults) for faults in some], read_with(("b", "e"), "acdefg"), read_with(("g", ""), "g")]
[[True, False, False, False], [5, 6, 8, 9], []]
""",
    "28, 2": """
>>> from litdigits.faults import numbers_seen
>>> numbers_seen([("g", ""), ("b", "e")], ["abcdef", "acdefg"])
[5, 6, 8, 9, 85, 86, 88, 89]
""",
    "29, 1": """
>>> from litdigits.faults import count_faults, first_contradiction, next_digits, segment_states
>>> tests = [(8, "acdefg"), (1, "c")]
>>> [segment_states(tests), count_faults(tests), next_digits(tests)]
[['f', 'd', 'fs', 'f', 'f', 'f', 'f'], 2, [2]]
>>> [segment_states([]), count_faults([]), next_digits([])]
[['dfs', 'dfs', 'dfs', 'dfs', 'dfs', 'dfs', 'dfs'], 2187, [1, 2, 5]]
>>> [first_contradiction(tests), first_contradiction([*tests, (7, "abc")]), count_faults([*tests, (7, "abc")])]
[None, 2, 0]
""",
    "32, 1": """
>>> from litdigits.live import Panel
>>> panel = Panel((3, 10, 8, "now"), 198)
>>> [panel.tick, panel.counted, panel.shown, panel.lit, panel.pattern, len(panel)]
[None, 198, 198, None, '', 0]
>>> [panel.wait(5), panel.lit, panel.pattern, panel.press(9), panel.lit, panel.counted]
[None, 0, 'bc', None, None, 199]
>>> [panel.press(24), panel.counted, panel.lit, panel.pattern]
[None, 200, 2, 'abcdef']
>>> [panel.wait(30), panel.picture((30, 4), 0), panel.picture((30, 5), 0)]
[None, ['bc', 'abcdfg', 'abcdefg'], ['bc', 'abcdfg', 'abcdf']]
>>> [panel.undo(), panel.undo(), panel.counted, panel.tick, panel.history]
[None, None, 199, 9, (198, [9])]
>>> other = panel.fork()
>>> [other == panel, other.press(10), other.counted, panel.counted, other == panel, other.log]
[True, None, 200, 199, False, [('wait', 5), ('press', 9), ('press', 10)]]
""",
    "32, 2": """
>>> from litdigits.live import Panel
>>> panel = Panel((1, 10, 10, "round"), 8)
>>> [panel.press(3), panel.counted, panel.shown, panel.wait(9), panel.shown, panel.wait(10), panel.shown]
[None, 9, 8, None, 8, None, 9]
""",
    "33, 1": """
>>> from litdigits.texts import format_display, format_history, format_picture
>>> [format_display((3, 10, 8, "now")), format_history((17, [-5, 90])), format_history((0, [])), format_picture(["bc", "", "abdeg"])]
['3x10/8 now', '17: -5 90', '0:', 'bc - abdeg']
""",
    "34, 1": """
>>> from litdigits.texts import parse_display, parse_history, parse_picture
>>> display = (3, 10, 8, "now")
>>> [parse_display("1x5/5 round"), parse_history(display, "17: -5 90"), parse_picture(display, "bc - abdeg")]
[(1, 5, 5, 'round'), (17, [-5, 90]), ['bc', '', 'abdeg']]
""",
    "36, 1": """
>>> from litdigits.console import Console
>>> console = Console()
>>> [console.execute(command) for command in ["number 3", "shown", "torn 0", "clear", "lie"]]
['ok', '3', '1..23=4 24=9 25..29=3', 'yes', 'yes']
>>> [console.execute(command) for command in ["press 24", "wait 30", "shown", "reading 0", "picture 0"]]
['ok', 'ok', '4', '9', 'abcdef abcdef abcdfg']
>>> [console.execute(command) for command in ["drift 0 7", "camera 29 8", "clear", "drift 0 1", "picture 0", "reading 0"]]
['none', 'ok', 'no', '1', 'abcdef abcdef bcg', 'none']
>>> [console.execute(command) for command in ["undo", "undo", "shown", "display 1x10/10 round", "shown", "torn 5"]]
['ok', 'ok', '3', 'ok', '0', '1..10=1 11..30=0']
""",
}

# Those whose last call raises an error, with the point that they stand in.
RAISING = [
    ("29", """
>>> from litdigits.faults import segment_states
>>> segment_states([(1, ""), (1, "bc")])
raises Impossible
"""),
    ("32", """
>>> from litdigits.live import Panel
>>> panel = Panel((3, 10, 8, "now"), 0)
>>> panel.press(5)
>>> panel.press(5)
raises InvalidTick
"""),
    ("32", """
>>> from litdigits.live import Panel
>>> panel = Panel((3, 10, 8, "now"), 0)
>>> panel.wait(29)
>>> panel.picture((30, 4), 0)
raises InvalidTick
"""),
    ("34", """
>>> from litdigits.texts import parse_display
>>> parse_display("3x10/11 now")
raises InvalidSyntax(word=0)
"""),
    ("34", """
>>> from litdigits.texts import parse_history
>>> parse_history((3, 10, 8, "now"), "17: 5 5")
raises InvalidSyntax(word=2)
"""),
    ("34", """
>>> from litdigits.texts import parse_picture
>>> parse_picture((3, 10, 8, "now"), "bc -")
raises InvalidSyntax(word=2)
"""),
    ("36", """
>>> from litdigits.console import Console
>>> Console().execute("number 1000")
raises InvalidNumber
"""),
    ("36", """
>>> from litdigits.console import Console
>>> Console().execute("camera 30 0")
raises InvalidCamera(index=1)
"""),
    ("36", """
>>> from litdigits.console import Console
>>> Console().execute("press 24 now")
raises InvalidCommand
"""),
]

# The table of point 5: each digit with its pattern, two of them in a row.
DIGITS = """
| 0 | abcdef | 5 | acdfg |
| 1 | bc | 6 | acdefg |
| 2 | abdeg | 7 | abc |
| 3 | abcdg | 8 | abcdefg |
| 4 | bcfg | 9 | abcdfg |
"""


class Examples(unittest.TestCase):
    def test_sessions(self):
        for name, text in EXAMPLES.items():
            with self.subTest(point=name):
                test = doctest.DocTestParser().get_doctest(text, {}, name, None, 0)
                self.assertGreater(len(test.examples), 1)
                report = []
                result = doctest.DocTestRunner(verbose=False).run(test, out=report.append)
                self.assertEqual(result.failed, 0, "".join(report))
                self.assertEqual(result.attempted, len(test.examples))

    def test_sessions_that_raise_an_error(self):
        for point, text in RAISING:
            with self.subTest(point=point, text=text):
                *lines, last, told = text.strip().splitlines()
                names = {}
                exec("\n".join(line.removeprefix(">>> ") for line in lines), names)
                word, _, field = told.removeprefix("raises ").rstrip(")").partition("(")
                with self.assertRaises(LitError) as caught:
                    eval(last.removeprefix(">>> "), names)
                self.assertEqual(type(caught.exception).__name__, word)
                self.assertEqual([f"{name}={value}" for name, value in vars(caught.exception).items()], field.split())

    def test_point_5(self):
        self.assertTrue(is_pattern("bcg"))
        self.assertTrue(is_pattern(""))
        words = [word for word in DIGITS.split() if word != "|"]
        self.assertEqual(len(words), 20)
        for digit, pattern in zip(words[::2], words[1::2]):
            self.assertEqual(pattern_of(int(digit)), pattern)

    def test_point_6(self):
        display = (3, 10, 8, "now")
        self.assertEqual(round_of(display), 3 * 10)
        # The places are lit by turns, each one for lit ticks out of slot.
        turns = [lit_place(display, tick) for tick in range(-30, 60)]
        self.assertEqual(turns, ([0] * 8 + [None] * 2 + [1] * 8 + [None] * 2 + [2] * 8 + [None] * 2) * 3)

    def test_point_7(self):
        for places in range(1, 9):
            display = (places, 10, 8, "now")
            self.assertEqual(count_at(display, (10 ** places - 1, [5]), 4), 10 ** places - 1)
            self.assertEqual(count_at(display, (10 ** places - 1, [5]), 5), 0)
        # The digits of a number, with zeros in front, belong to the places.
        picture = picture_of((4, 10, 8, "now"), (40, 4), (57, []), 0)
        self.assertEqual(picture, ["abcdef", "abcdef", "acdfg", "abc"])

    def test_point_8(self):
        self.assertEqual([shown_at((3, 10, 8, "now"), (3, [24]), tick) for tick in (23, 24, 29, 30)], [3, 4, 4, 4])
        self.assertEqual([shown_at((3, 10, 8, "round"), (3, [24]), tick) for tick in (23, 24, 29, 30)], [3, 3, 3, 4])
        self.assertEqual([shown_at((3, 10, 8, "round"), (3, [30]), tick) for tick in (29, 30)], [3, 4])

    def test_point_9(self):
        display = (3, 10, 8, "now")
        lit = [tick for tick in range(30) if is_lit(display, 2, tick)]
        self.assertEqual(lit, [20, 21, 22, 23, 24, 25, 26, 27])
        shown = [shown_at(display, (3, [24]), tick) for tick in lit]
        self.assertEqual(shown, [3, 3, 3, 3, 4, 4, 4, 4])
        self.assertEqual(picture_of(display, (30, 4), (3, [24]), 0)[2], "abcdfg")
        self.assertEqual(pattern_of(9), "abcdfg")
        self.assertEqual(reading_of(display, picture_of(display, (30, 4), (3, [24]), 0)), 9)
        self.assertEqual(picture_of(display, (30, 5), (3, [24]), 0)[2], "bcg")
        shown = [shown_at(display, (8, [22, 24]), tick) for tick in lit]
        self.assertEqual([number % 10 for number in shown], [8, 8, 9, 9, 0, 0, 0, 0])
        self.assertEqual(picture_of(display, (30, 4), (8, [22, 24]), 0)[2], "abcdefg")


if __name__ == "__main__":
    unittest.main()
