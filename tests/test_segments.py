"""Points 5 and 12."""

import itertools
import unittest

from litdigits import segments
from litdigits.errors import InvalidDigit, InvalidPattern
from litdigits.segments import (
    common_of, digit_of, digits_about, digits_within, is_pattern, pattern_of, torn_digit, union_of,
)
from tests.helper import ALL_PATTERNS, NO_INTEGERS, PATTERNS, STRANGE, called

NO_PATTERNS = [
    "aa", "ba", "abb", "aab", "aba", "cb", "abcdegf", "gfedcba", "abcdefga", "abcdefgh", "h", "ah", "ha", "A", "ABG",
    "aB", " ", "a b", " a", "a ", "ab\n", "\n", "-", "a,b", "0", "abc7", "abc-", "`", "a\x00", "\u0430", "abcdefg" * 2,
    "a" * 50000, "abcdefg " * 6000,
]
NO_STRINGS = [*STRANGE, 0, 1, 8, -1, 10 ** 30, [], ["a", "b"], ("a", "b"), (), ["abg"], ("abg",), {"a": 1}]
NO_DIGITS = [-1, 10, 11, 100, -10, 10 ** 30, -10 ** 30, *NO_INTEGERS, "3", "bc"]


def spelled(some):
    return "".join(sorted(some))


class Patterns(unittest.TestCase):
    def test_all_patterns(self):
        self.assertEqual(len(set(ALL_PATTERNS)), 128)
        for pattern in ALL_PATTERNS:
            self.assertIs(called(is_pattern, pattern), True, pattern)

    def test_strings_that_are_no_patterns(self):
        for text in NO_PATTERNS:
            self.assertIs(called(is_pattern, text), False, text[:20])

    def test_all_short_strings(self):
        for many in range(5):
            for letters in itertools.product("abcdefgh", repeat=many):
                text = "".join(letters)
                self.assertIs(is_pattern(text), text in ALL_PATTERNS, text)

    def test_all_sequences_of_all_segments(self):
        found = [letters for letters in itertools.permutations("abcdefg") if is_pattern("".join(letters))]
        self.assertEqual(found, [tuple("abcdefg")])

    def test_values_that_are_no_strings(self):
        for value in NO_STRINGS:
            self.assertIs(called(is_pattern, value), False, repr(value))

    def test_functions_of_patterns_refuse_all_else(self):
        for value in [*NO_PATTERNS, *NO_STRINGS]:
            for function in (digit_of, digits_within, digits_about):
                self.assertIs(type(called(function, value)), InvalidPattern, function)
            for function in (union_of, common_of):
                for pair in ((value, "abg"), ("abg", value), (value, value), (value, None)):
                    self.assertIs(type(called(function, *pair)), InvalidPattern, function)


class Digits(unittest.TestCase):
    def test_pattern_of_each_digit(self):
        self.assertEqual({digit: called(pattern_of, digit) for digit in range(10)}, PATTERNS)

    def test_digit_of_each_pattern(self):
        digits = {pattern: digit for digit, pattern in PATTERNS.items()}
        self.assertEqual(len(digits), 10)
        for pattern in ALL_PATTERNS:
            digit = called(digit_of, pattern)
            self.assertEqual(digit, digits.get(pattern), pattern)
            self.assertIn(type(digit), (int, type(None)))

    def test_what_is_no_digit(self):
        for value in NO_DIGITS:
            self.assertIs(type(called(pattern_of, value)), InvalidDigit, repr(value))
            for pair in ((value, 3), (3, value), (value, value)):
                self.assertIs(type(called(torn_digit, *pair)), InvalidDigit, repr(value))

    def test_torn_digit_of_all_pairs(self):
        digits = {pattern: digit for digit, pattern in PATTERNS.items()}
        for one in range(10):
            for other in range(10):
                union = spelled(set(PATTERNS[one]) | set(PATTERNS[other]))
                self.assertEqual(called(torn_digit, one, other), digits.get(union), (one, other))

    def test_each_digit_torn_with_itself(self):
        self.assertEqual([torn_digit(digit, digit) for digit in range(10)], list(range(10)))


class Unions(unittest.TestCase):
    def test_of_all_pairs_of_patterns(self):
        for one in ALL_PATTERNS:
            for other in ALL_PATTERNS:
                self.assertEqual(union_of(one, other), spelled(set(one) | set(other)))
                self.assertEqual(common_of(one, other), spelled(set(one) & set(other)))


class Lists(unittest.TestCase):
    def test_digits_within_each_pattern(self):
        for pattern in ALL_PATTERNS:
            expected = [digit for digit in range(10) if set(PATTERNS[digit]) <= set(pattern)]
            self.assertEqual(called(digits_within, pattern), expected, pattern)

    def test_digits_about_each_pattern(self):
        for pattern in ALL_PATTERNS:
            expected = [digit for digit in range(10) if set(PATTERNS[digit]) >= set(pattern)]
            self.assertEqual(called(digits_about, pattern), expected, pattern)

    def test_ends(self):
        self.assertEqual(digits_within(""), [])
        self.assertEqual(digits_within("abcdefg"), list(range(10)))
        self.assertEqual(digits_about(""), list(range(10)))
        self.assertEqual(digits_about("abcdefg"), [8])

    def test_each_answer_is_a_new_list(self):
        for function in (digits_within, digits_about):
            for pattern in ("", "abcdefg", "abc", "bc"):
                first, expected = function(pattern), list(function(pattern))
                first.append("changed")
                first.reverse()
                second = function(pattern)
                self.assertIs(type(second), list)
                self.assertIsNot(first, second)
                self.assertEqual(second, expected)


class Interface(unittest.TestCase):
    def test_arguments_by_name(self):
        self.assertIs(is_pattern(value="abg"), True)
        self.assertEqual(pattern_of(digit=4), "bcfg")
        self.assertEqual(digit_of(pattern="abc"), 7)
        self.assertEqual(union_of(one="ab", other="bc"), "abc")
        self.assertEqual(union_of(other="g", one="a"), "ag")
        self.assertEqual(common_of(one="ab", other="bc"), "b")
        self.assertEqual(torn_digit(one=3, other=4), 9)
        self.assertEqual(digits_within(pattern="abc"), [1, 7])
        self.assertEqual(digits_about(pattern="abcdef"), [0, 8])

    def test_defined_here(self):
        names = [
            "is_pattern", "pattern_of", "digit_of", "union_of", "common_of", "torn_digit", "digits_within",
            "digits_about",
        ]
        for name in names:
            self.assertEqual(getattr(segments, name).__module__, "litdigits.segments")


if __name__ == "__main__":
    unittest.main()
