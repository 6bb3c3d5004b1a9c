"""Points 33 and 34."""

import itertools
import random
import unittest

from litdigits.displays import is_display
from litdigits.errors import InvalidDisplay, InvalidSyntax
from litdigits.pictures import is_history
from litdigits.texts import (
    format_display, format_history, format_picture, parse_display, parse_history, parse_picture,
)
from tests.helper import ALL_PATTERNS, STRANGE, AtOnce, called, lists_in, small_displays

DISPLAY = (3, 10, 8, "now")

NO_STRINGS = [*[value for value in STRANGE if not isinstance(value, str)], 5, [], (), ["17:"], ("17:", ), b"17:"]

# Words that are no number wherever they stand.
NO_NUMBERS = [
    "", "-", "--5", "-0", "00", "01", "-01", "+5", "5.0", "1e3", "0x5", "1_000", "5,", " 5", "5-", "five", "1" * 31,
    "-" + "1" * 31, "\n5", "5\n", "5\t", "\u0665", "\u00b2", "\uff15", "5\u0665", "None", "True", "(5)", "5:", ":5",
]


class Texts(unittest.TestCase):
    def refused(self, word, function, *values):
        error = called(function, *values)
        self.assertIs(type(error), InvalidSyntax, values)
        self.assertEqual(error.word, word, values)


class Displays(Texts):
    def test_forms(self):
        for display, text in [
            ((3, 10, 8, "now"), "3x10/8 now"), ((1, 1, 1, "round"), "1x1/1 round"),
            ((8, 10 ** 30 - 1, 10 ** 29, "now"), "8x" + "9" * 30 + "/1" + "0" * 29 + " now"),
        ]:
            self.assertEqual(called(format_display, display), text)
            self.assertEqual(called(parse_display, text), display)

    def test_what_is_written_is_read_back(self):
        choice = random.Random(33)
        for display in small_displays(8, 4):
            self.assertEqual(parse_display(format_display(display)), display)
        for _ in range(200):
            slot = choice.randrange(1, 10 ** choice.randrange(1, 31))
            display = (choice.randrange(1, 9), slot, choice.randrange(1, slot + 1), choice.choice(["now", "round"]))
            self.assertEqual(called(parse_display, called(format_display, display)), display)

    def test_all_texts_of_few_signs(self):
        # Whatever is read is a display whose text is this one; so nothing else can be read.
        read = 0
        for signs in itertools.product("0129x/-+: ", repeat=5):
            text = "".join(signs) + " now"
            answer = called(parse_display, text)
            if isinstance(answer, InvalidSyntax):
                self.assertIn(answer.word, (0, 1, 2))
                continue
            read += 1
            self.assertIs(is_display(answer), True)
            self.assertEqual(format_display(answer), text)
        expected = sum(1 for places in (1, 2) for slot in (1, 2, 9) for lit in (1, 2, 9) if lit <= slot)
        self.assertEqual(read, expected)

    def test_wrong_first_words(self):
        for word in [
            "", "3x10/11", "9x10/8", "0x10/8", "-3x10/8", "3x0/0", "3x10/0", "3x10/-8", "3x-10/8", "03x10/8", "3x010/8", "3x10/08",
            "3X10/8", "3x10", "3/10", "3x/8", "x10/8", "3x10/", "3x10/8/1", "3x3x10/8", "3x10x8", "3/10x8", "3x10\\8", "+3x10/8",
            "3x+10/8", "3x10/+8", "now", "3x10/8\n", "\n3x10/8", "(3x10/8)", "3x10/8,", "3x10/8now", "3x-0/8",
            "3x" + "1" * 31 + "/8", "3x10/" + "1" * 31, "\u0663x10/8",
        ]:
            for rest in ([], ["now"], ["later"], ["now", "now"], [""]):
                self.refused(0, parse_display, " ".join([word, *rest]))

    def test_wrong_second_words(self):
        for word in ["", "later", "Now", "NOW", "now\n", "rounds", "noww", "0", "now,", "\nround", "None"]:
            self.refused(1, parse_display, f"3x10/8 {word}")
            self.refused(1, parse_display, f"3x10/8 {word} now")
        self.refused(1, parse_display, "3x10/8  now")

    def test_words_too_many_and_words_missing(self):
        self.refused(1, parse_display, "3x10/8")
        self.refused(2, parse_display, "3x10/8 now ")
        self.refused(2, parse_display, "3x10/8 now now")
        self.refused(2, parse_display, "3x10/8 round 5 6")
        self.refused(0, parse_display, " 3x10/8 now")
        self.refused(0, parse_display, "")
        self.refused(0, parse_display, " ")

    def test_no_strings(self):
        for value in NO_STRINGS:
            self.refused(None, parse_display, value)

    def test_long_texts(self):
        with AtOnce():
            self.refused(0, parse_display, "3" * 50000)
            self.refused(2, parse_display, "3x10/8 now" + " " * 49990)
            self.refused(0, parse_display, "x" * 50000)


class Histories(Texts):
    def test_forms(self):
        for history, text in [
            ((17, [-5, 90]), "17: -5 90"), ((0, []), "0:"), ((999, [0]), "999: 0"), ((5, [-10 ** 30 + 1, 10 ** 30 - 1]), f"5: -{'9' * 30} {'9' * 30}"),
        ]:
            self.assertEqual(called(format_history, history), text)
            self.assertEqual(called(parse_history, DISPLAY, text), history)

    def test_what_is_written_is_read_back(self):
        choice = random.Random(34)
        for _ in range(200):
            display = (choice.randrange(1, 9), 5, 3, choice.choice(["now", "round"]))
            size = 10 ** choice.randrange(1, 30)
            presses = sorted({choice.randrange(-size, size) for _ in range(choice.randrange(12))})
            history = (choice.randrange(10 ** display[0]), presses)
            text = called(format_history, history)
            self.assertEqual(text, f"{history[0]}:" + "".join(f" {press}" for press in presses))
            self.assertEqual(called(parse_history, display, text), history)

    def test_all_texts_of_few_signs(self):
        display, read = (1, 2, 1, "now"), 0
        for signs in itertools.product("012-: ", repeat=6):
            text = "".join(signs)
            answer = called(parse_history, display, text)
            if isinstance(answer, InvalidSyntax):
                self.assertIn(answer.word, range(len(text.split(" ")) + 1))
                continue
            read += 1
            self.assertIs(is_history(display, answer), True)
            self.assertEqual(format_history(answer), text)
        # D: N with N of three signs, D: N N with one and one, in ascending sequence.
        self.assertEqual(read, 3 * (2 * 9 + 2 * 3) + 3 * 3)

    def test_wrong_numbers(self):
        for word in ["1000:", "-1:", "17", "17::", ":17", ":", "017:", "17;", "17:5", "+1:", "-0:", "\n17:", "17:\n", "1" * 31 + ":", "", "x:"]:
            for rest in ("", " 5", " 5 5", " x", " "):
                self.refused(0, parse_history, DISPLAY, word + rest)
        for places in range(1, 9):
            display = (places, 1, 1, "now")
            self.assertEqual(called(parse_history, display, f"{10 ** places - 1}:"), (10 ** places - 1, []))
            self.refused(0, parse_history, display, f"{10 ** places}:")

    def test_wrong_presses(self):
        for word in NO_NUMBERS:
            if " " in word:
                continue
            self.refused(1, parse_history, DISPLAY, f"17: {word}")
            self.refused(1, parse_history, DISPLAY, f"17: {word} 5")
            self.refused(3, parse_history, DISPLAY, f"17: -5 4 {word} {word}")

    def test_presses_that_do_not_ascend(self):
        for presses, word in [
            ([5, 5], 2), ([5, 4], 2), ([5, -6], 2), ([-5, -6], 2), ([-6, -5, -5, 7], 3), ([1, 2, 3, 2, 1], 4), ([0, 0], 2), ([9, 10, 10], 3),
            ([10 ** 29, 10 ** 29 - 1], 2),
        ]:
            self.refused(word, parse_history, DISPLAY, "17: " + " ".join(map(str, presses)))
        # As numbers they ascend, as strings they would not.
        self.assertEqual(called(parse_history, DISPLAY, "17: -10 -9 9 10"), (17, [-10, -9, 9, 10]))

    def test_spaces(self):
        for text, word in [("17: ", 1), ("17:  5", 1), ("17: 5 ", 2), ("17: 5  6", 2), (" 17: 5", 0), ("", 0), (" ", 0), ("17 :", 0), ("17: 5\n", 1)]:
            self.refused(word, parse_history, DISPLAY, text)

    def test_most_presses(self):
        words = ["17:", *[str(press) for press in range(1200)]]
        with AtOnce():
            self.assertEqual(called(parse_history, DISPLAY, " ".join(words)), (17, list(range(1200))))
        for more in (["1200"], ["1200", "1201"], ["x"], ["5"], [""]):
            self.refused(1201, parse_history, DISPLAY, " ".join([*words, *more]))
        self.refused(700, parse_history, DISPLAY, " ".join([*words[:700], "x", *words[700:], "1200"]))

    def test_no_strings(self):
        for value in NO_STRINGS:
            self.refused(None, parse_history, DISPLAY, value)

    def test_long_texts(self):
        with AtOnce():
            self.refused(0, parse_history, DISPLAY, "1" * 50000)
            self.refused(1, parse_history, DISPLAY, "1: " + "1" * 49000)
            self.refused(1, parse_history, DISPLAY, "1: " + " " * 49000)


class Pictures(Texts):
    def test_forms(self):
        for picture, text in [(["bc", "", "abdeg"], "bc - abdeg"), (["", "", ""], "- - -"), (["abcdefg", "g", ""], "abcdefg g -")]:
            self.assertEqual(called(format_picture, picture), text)
            self.assertEqual(called(parse_picture, DISPLAY, text), picture)

    def test_what_is_written_is_read_back(self):
        choice = random.Random(35)
        for pattern in ALL_PATTERNS:
            self.assertEqual(called(parse_picture, (1, 1, 1, "now"), called(format_picture, [pattern])), [pattern])
        for places in range(1, 9):
            for _ in range(30):
                picture = [choice.choice(ALL_PATTERNS) for _ in range(places)]
                text = called(format_picture, picture)
                self.assertEqual(text, " ".join(pattern or "-" for pattern in picture))
                self.assertEqual(called(parse_picture, (places, 5, 2, "round"), text), picture)

    def test_all_texts_of_few_signs(self):
        read = 0
        for signs in itertools.product("abg- h", repeat=4):
            text = "".join(signs)
            answer = called(parse_picture, (2, 5, 5, "now"), text)
            if not isinstance(answer, InvalidSyntax):
                read += 1
                self.assertEqual(format_picture(answer), text)
        # Words of one and two letters: -, a, b, g, and ab, ag, bg.
        self.assertEqual(read, 2 * 4 * 3)

    def test_wrong_words(self):
        for word in ["", "ba", "aa", "h", "ah", "A", "a-", "--", "-a", "a,b", "abcdefgh", "a\n", "\n", "0", "None"]:
            self.refused(0, parse_picture, DISPLAY, f"{word} a b")
            self.refused(1, parse_picture, DISPLAY, f"a {word} {word}")
            self.refused(2, parse_picture, DISPLAY, f"a b {word}")
            self.refused(2, parse_picture, DISPLAY, f"- - {word} a")

    def test_words_too_many_and_words_missing(self):
        for places in range(1, 9):
            display = (places, 1, 1, "now")
            for many in range(1, 11):
                text = " ".join(["bc"] * many)
                if many == places:
                    self.assertEqual(called(parse_picture, display, text), ["bc"] * many)
                else:
                    self.refused(min(many, places), parse_picture, display, text)
        self.refused(3, parse_picture, DISPLAY, "a b c ")
        self.refused(3, parse_picture, DISPLAY, "a b c x")
        self.refused(2, parse_picture, DISPLAY, "a b")
        self.refused(1, parse_picture, DISPLAY, "a ")
        self.refused(1, parse_picture, DISPLAY, "a  b c")
        self.refused(0, parse_picture, DISPLAY, " a b c")
        self.refused(0, parse_picture, DISPLAY, "")

    def test_no_strings(self):
        for value in NO_STRINGS:
            self.refused(None, parse_picture, DISPLAY, value)

    def test_long_texts(self):
        with AtOnce():
            self.refused(0, parse_picture, DISPLAY, "a" * 50000)
            self.refused(3, parse_picture, DISPLAY, "- " * 25000)


class Answers(unittest.TestCase):
    def test_wrong_displays_come_first(self):
        for function in (parse_history, parse_picture):
            for display, index in [
                (None, None), ([3, 10, 8, "now"], None), ((9, 10, 8, "now"), 0), ((3, 0, 8, "now"), 1), ((3, 10, 11, "now"), 2), ((3, 10, 8, ""), 3),
                *[(value, None) for value in STRANGE],
            ]:
                for text in (None, "", "17:", "a b c", 5):
                    error = called(function, display, text)
                    self.assertIs(type(error), InvalidDisplay)
                    self.assertEqual(error.index, index)

    def test_answers_are_new_lists(self):
        for answer in [lambda: parse_history(DISPLAY, "17: 5 6"), lambda: parse_picture(DISPLAY, "a b c")]:
            one, other = answer(), answer()
            self.assertEqual(one, other)
            self.assertEqual(len({id(some) for some in lists_in(one) + lists_in(other)}), 2)
            lists_in(one)[0].clear()
            self.assertEqual(answer(), other)

    def test_by_name(self):
        self.assertEqual(format_display(display=DISPLAY), "3x10/8 now")
        self.assertEqual(format_history(history=(17, [5])), "17: 5")
        self.assertEqual(format_picture(picture=["", "a"]), "- a")
        self.assertEqual(parse_display(text="3x10/8 now"), DISPLAY)
        self.assertEqual(parse_history(text="17: 5", display=DISPLAY), (17, [5]))
        self.assertEqual(parse_picture(text="a - b", display=DISPLAY), ["a", "", "b"])


if __name__ == "__main__":
    unittest.main()
