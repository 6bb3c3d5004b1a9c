"""Points 28 and 29."""

import itertools
import random
import unittest

from litdigits.errors import Impossible, InvalidDigit, InvalidFaults, InvalidPattern, InvalidPicture, InvalidTests
from litdigits.faults import (
    can_tell, count_faults, digits_alike, first_contradiction, next_digits, numbers_seen, read_with, seen_with,
    segment_states,
)
from tests.helper import ALL_PATTERNS, NO_INTEGERS, PATTERNS, STRANGE, called, lists_in


def seen_by_definition(faults, digit):
    dead, stuck = map(set, faults)
    return "".join(sorted(set(PATTERNS[digit]) - dead | stuck))


# All faults, as tuples of the letters of each segment, with the patterns of all digits.
ALL_FAULTS = {}
for letters in itertools.product("dfs", repeat=7):
    pair = tuple("".join(name for name, letter in zip("abcdefg", letters) if letter == some) for some in "ds")
    ALL_FAULTS[letters] = (pair, [seen_by_definition(pair, digit) for digit in range(10)])

PAIRS = [pair for pair, _ in ALL_FAULTS.values()]


class Faults(unittest.TestCase):
    def test_all_pairs_of_patterns_and_all_digits(self):
        self.assertEqual(len(set(PAIRS)), 2187)
        for pair in itertools.product(ALL_PATTERNS, repeat=2):
            if set(pair[0]) & set(pair[1]):
                with self.assertRaises(InvalidFaults) as caught:
                    seen_with(pair, 0)
                self.assertEqual(caught.exception.index, 1)
            else:
                for digit in range(10):
                    self.assertEqual(seen_with(pair, digit), seen_by_definition(pair, digit), (pair, digit))

    def test_digits_that_look_alike(self):
        for pair, seen in ALL_FAULTS.values():
            groups = [[digit for digit in range(10) if seen[digit] == pattern] for pattern in set(seen)]
            groups = sorted(group for group in groups if len(group) > 1)
            self.assertEqual(called(digits_alike, pair), groups, pair)
            self.assertIs(called(can_tell, pair), groups == [], pair)
            answer = digits_alike(pair)
            self.assertEqual(len({id(some) for some in lists_in(answer)}), len(groups) + 1)

    def test_read_with(self):
        choice = random.Random(28)
        for pair, seen in ALL_FAULTS.values():
            for pattern in [*set(seen), *choice.sample(ALL_PATTERNS, 5), ""]:
                expected = [digit for digit in range(10) if seen[digit] == pattern]
                self.assertEqual(read_with(pair, pattern), expected, (pair, pattern))

    def test_all_patterns_for_some_faults(self):
        for pair in [("", ""), ("g", ""), ("b", "e"), ("abcdefg", ""), ("", "abcdefg"), ("abc", "defg"), ("d", "")]:
            for pattern in ALL_PATTERNS:
                expected = [digit for digit in range(10) if seen_by_definition(pair, digit) == pattern]
                self.assertEqual(called(read_with, pair, pattern), expected, (pair, pattern))

    def test_wrong_faults(self):
        for value, index in [
            (None, None), (["", ""], None), (("", ), None), (("", "", ""), None), ((), None), ("", None), ("ab", None),
            (("ba", "aa"), 0), ((None, "a"), 0), (("h", "h"), 0), ((["a"], ""), 0), (("a", "ba"), 1), (("a", None), 1),
            (("a", "a"), 1), (("abc", "cdef"), 1), (("abcdefg", "g"), 1), (("a", ("b", )), 1), ((5, 5), 0),
            *[(some, None) for some in STRANGE], *[((some, ""), 0) for some in STRANGE], *[(("a", some), 1) for some in STRANGE],
        ]:
            for answer in [
                called(seen_with, value, 10), called(digits_alike, value), called(can_tell, value), called(read_with, value, None),
            ]:
                self.assertIs(type(answer), InvalidFaults, repr(value))
                self.assertEqual(answer.index, index, repr(value))
            error = called(numbers_seen, [("", ""), value], None)
            self.assertIs(type(error), InvalidFaults)
            self.assertEqual(error.index, 1)

    def test_wrong_digits_and_patterns(self):
        for digit in (-1, 10, 10 ** 30, *NO_INTEGERS):
            self.assertIs(type(called(seen_with, ("a", "b"), digit)), InvalidDigit)
        for pattern in ("ba", "aa", "h", "a b", *[some for some in NO_INTEGERS if not isinstance(some, str)]):
            self.assertIs(type(called(read_with, ("a", "b"), pattern)), InvalidPattern, repr(pattern))


class Rows(unittest.TestCase):
    def by_definition(self, row, picture):
        found = []
        for number in range(10 ** len(row)):
            digits = map(int, str(number).zfill(len(row)))
            if all(seen_by_definition(faults, digit) == pattern for faults, digit, pattern in zip(row, digits, picture)):
                found.append(number)
        return found

    def test_all_numbers_of_rows(self):
        choice = random.Random(2)
        found = 0
        for places in (1, 2, 3):
            for _ in range(25):
                row = [choice.choice([choice.choice(PAIRS), choice.choice([("g", ""), ("b", "e"), ("be", ""), ("abcdefg", "")])]) for _ in range(places)]
                shown = [choice.randrange(10) for _ in range(places)]
                picture = [seen_by_definition(faults, digit) for faults, digit in zip(row, shown)]
                if choice.random() < 0.2:
                    picture[choice.randrange(places)] = choice.choice(ALL_PATTERNS)
                expected = self.by_definition(row, picture)
                self.assertEqual(called(numbers_seen, row, picture), expected, (row, picture))
                found += len(expected)
        self.assertGreater(found, 75)

    def test_places_that_show_nothing(self):
        dead = ("abcdefg", "")
        for places in (1, 2, 3):
            self.assertEqual(called(numbers_seen, [dead] * places, [""] * places), list(range(10 ** places)))
            self.assertEqual(called(numbers_seen, [dead] * places, ["a"] * places), [])
        self.assertEqual(called(numbers_seen, [dead, ("", "")], ["", "bc"]), list(range(1, 100, 10)))
        self.assertEqual(called(numbers_seen, [("", ""), dead], ["bc", ""]), list(range(10, 20)))

    def test_answers_are_new_lists(self):
        for answer in [
            lambda: numbers_seen([("g", ""), ("b", "e")], ["abcdef", "acdefg"]), lambda: numbers_seen([("g", "")], ["g"]),
            lambda: read_with(("b", "e"), "acdefg"), lambda: read_with(("g", ""), "g"), lambda: digits_alike(("b", "e")),
            lambda: segment_states([]), lambda: next_digits([]), lambda: next_digits([(8, "acdefg"), (1, "c"), (2, "adeg")]),
        ]:
            one, other = answer(), answer()
            self.assertEqual(one, other)
            self.assertFalse({id(some) for some in lists_in(one)} & {id(some) for some in lists_in(other)})
            for some in lists_in(one):
                some.append("x")
            self.assertEqual(answer(), other)

    def test_wrong_rows_and_pictures(self):
        good = ("a", "b")
        for row, index in [
            ([], None), ([good] * 4, None), ((good, ), None), (None, None), (good, None), ([None] * 4, None), ([None], 0),
            ([good, ["a", "b"]], 1), ([good, good, ("a", "a")], 2), ([("a", "a"), None], 0), *[(some, None) for some in STRANGE],
        ]:
            error = called(numbers_seen, row, None)
            self.assertIs(type(error), InvalidFaults, repr(row))
            self.assertEqual(error.index, index, repr(row))
        for picture, index in [
            (None, None), (["a"], None), (["a", "b", "c"], None), (("a", "b"), None), ([], None), ("ab", None), (["ba", None], 0),
            (["ab", "aa"], 1), (["ab", 5], 1), ([None, "a"], 0), *[(some, None) for some in STRANGE], *[(["", some], 1) for some in STRANGE],
        ]:
            error = called(numbers_seen, [good, good], picture)
            self.assertIs(type(error), InvalidPicture, repr(picture))
            self.assertEqual(error.index, index, repr(picture))


def fitting(tests):
    """The letters of all faults that fit."""
    return [letters for letters, (_, seen) in ALL_FAULTS.items() if all(seen[digit] == pattern for digit, pattern in tests)]


def telling_digits(fits):
    """The shortest list of digits, of several the least, of which all of these faults show other patterns."""
    for many in range(11):
        for digits in itertools.combinations(range(10), many):
            if len({tuple(ALL_FAULTS[letters][1][digit] for digit in digits) for letters in fits}) == len(fits):
                return list(digits)


def drawn_tests(choice):
    """Tests of some faults, now and then with one that contradicts, or with one told twice."""
    seen = ALL_FAULTS[choice.choice(list(ALL_FAULTS))][1]
    tests = [(digit, seen[digit]) for digit in [choice.randrange(10) for _ in range(choice.randrange(5))]]
    if tests and choice.random() < 0.3:
        tests.append(choice.choice(tests))
    if choice.random() < 0.3:
        tests.insert(choice.randrange(len(tests) + 1), (choice.randrange(10), choice.choice(ALL_PATTERNS)))
    return tests


class Tests(unittest.TestCase):
    def compare(self, tests):
        fits = fitting(tests)
        self.assertEqual(called(count_faults, tests), len(fits), tests)
        possible = [length - 1 for length in range(1, len(tests) + 1) if not fitting(tests[:length])]
        self.assertEqual(called(first_contradiction, tests), possible[0] if possible else None, tests)
        if not fits:
            self.assertIs(type(called(segment_states, tests)), Impossible, tests)
            self.assertIs(type(called(next_digits, tests)), Impossible, tests)
            return None
        states = ["".join(letter for letter in "dfs" if letter in column) for column in zip(*fits)]
        self.assertEqual(called(segment_states, tests), states, tests)
        self.assertEqual(called(next_digits, tests), telling_digits(fits), tests)
        return states

    def test_no_tests(self):
        self.assertEqual(self.compare([]), ["dfs"] * 7)

    def test_one_test(self):
        choice = random.Random(1)
        for digit in range(10):
            for pattern in ["", PATTERNS[digit], "abcdefg", *choice.sample(ALL_PATTERNS, 12)]:
                self.compare([(digit, pattern)])
                self.compare([(digit, pattern)] * 2)

    def test_drawn_tests(self):
        choice = random.Random(29)
        told = {True: 0, False: 0}
        lengths = {}
        for _ in range(400):
            tests = drawn_tests(choice)
            told[self.compare(tests) is None] += 1
            if fitting(tests):
                lengths[len(next_digits(tests))] = True
        self.assertGreater(min(told.values()), 50)
        self.assertEqual(sorted(lengths), [0, 1, 2, 3])

    def test_all_faults_with_all_digits_shown(self):
        for letters, (_, seen) in list(ALL_FAULTS.items())[::7]:
            tests = list(enumerate(seen))
            self.assertEqual(called(segment_states, tests), list(letters))
            self.assertEqual(called(count_faults, tests), 1)
            self.assertEqual(called(next_digits, tests), [])
            self.assertIsNone(called(first_contradiction, tests))

    def test_the_digits_that_are_told_settle_it(self):
        choice = random.Random(3)
        for _ in range(200):
            tests = drawn_tests(choice)
            fits = fitting(tests)
            if fits:
                seen = ALL_FAULTS[choice.choice(fits)][1]
                later = [*tests, *[(digit, seen[digit]) for digit in next_digits(tests)]]
                self.assertTrue(all(len(some) == 1 for some in segment_states(later)))

    def test_contradictions(self):
        self.assertEqual(called(first_contradiction, [(1, ""), (1, "bc")]), 1)
        self.assertEqual(called(first_contradiction, [(8, ""), (8, ""), (0, "a"), (1, "g")]), 2)
        # Each of the two tests goes with the first one, but not both together with it: a is dead, or fine, or stuck.
        self.assertEqual(called(first_contradiction, [(0, "abcdef"), (1, "bc"), (7, "bc")]), 2)
        self.assertEqual(called(first_contradiction, [(1, "abc"), (0, "abcdef"), (7, "abc"), (7, "bc")]), 3)
        self.assertEqual(called(count_faults, [(1, ""), (1, "bc")]), 0)

    def test_sixty_tests(self):
        choice = random.Random(60)
        for _ in range(20):
            letters = choice.choice(list(ALL_FAULTS))
            seen = ALL_FAULTS[letters][1]
            shown = choice.sample(range(10), 3)
            tests = [(digit, seen[digit]) for digit in [choice.choice(shown) for _ in range(60)]]
            self.compare(tests)
            self.compare([*tests[:59], (choice.randrange(10), choice.choice(ALL_PATTERNS))])
            for function in (segment_states, first_contradiction, count_faults, next_digits):
                error = called(function, [*tests, tests[0]])
                self.assertIs(type(error), InvalidTests)
                self.assertIsNone(error.index)

    def test_wrong_tests(self):
        for tests, index in [
            (None, None), (((1, "bc"), ), None), ("", None), ([None] * 61, None), ([None], 0), ([[1, "bc"]], 0), ([(1, )], 0),
            ([(1, "bc", 0)], 0), ([()], 0), ([(10, "bc")], 0), ([(-1, "bc")], 0), ([(True, "bc")], 0), ([("1", "bc")], 0),
            ([(1, "cb")], 0), ([(1, None)], 0), ([(1, "bc"), (1, "h")], 1), ([(1, ""), (1, "bc"), None], 2), ([("bc", 1)], 0),
            *[(some, None) for some in STRANGE], *[([(1, "bc"), some], 1) for some in STRANGE],
            *[([(some, "bc")], 0) for some in STRANGE], *[([(1, some)], 0) for some in STRANGE],
        ]:
            for function in (segment_states, first_contradiction, count_faults, next_digits):
                error = called(function, tests)
                self.assertIs(type(error), InvalidTests, repr(tests))
                self.assertEqual(error.index, index, repr(tests))


if __name__ == "__main__":
    unittest.main()
