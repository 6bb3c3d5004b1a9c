"""Broken segments of a place: tuples (dead, stuck) of patterns, what a place shows with them, and tests of it."""

from itertools import combinations

from litdigits.errors import Impossible, InvalidFaults, InvalidTests
from litdigits.pictures import check_patterns
from litdigits.segments import PATTERNS, SEGMENTS, check_digit, check_pattern, is_digit, is_pattern

MOST_TESTS = 60
MOST_IN_ROW = 3

# The letters of what a segment can be: dead, fine, stuck.
STATES = "dfs"


def check_faults(value):
    """Raise InvalidFaults unless a value is the faults of a place."""
    if not isinstance(value, tuple) or len(value) != 2:
        raise InvalidFaults(None)
    dead, stuck = value
    if not is_pattern(dead):
        raise InvalidFaults(0)
    if not is_pattern(stuck) or any([segment in dead for segment in stuck]):
        raise InvalidFaults(1)


def is_faults(value):
    """Whether a value is the faults of a place."""
    try:
        check_faults(value)
    except InvalidFaults:
        return False
    return True


def check_row(value):
    """Raise InvalidFaults unless a value is a list of the faults of one to three places."""
    if not isinstance(value, list) or not 1 <= len(value) <= MOST_IN_ROW:
        raise InvalidFaults(None)
    for index, item in enumerate(value):
        if not is_faults(item):
            raise InvalidFaults(index)


def check_tests(value):
    """Raise InvalidTests unless a value is a list of tests."""
    if not isinstance(value, list) or len(value) > MOST_TESTS:
        raise InvalidTests(None)
    for index, item in enumerate(value):
        if not isinstance(item, tuple) or len(item) != 2 or not is_digit(item[0]) or not is_pattern(item[1]):
            raise InvalidTests(index)


def faulty_pattern(faults, digit):
    """The pattern that a place with faults shows for a digit; nothing is checked."""
    dead, stuck = faults
    fine = [segment for segment in PATTERNS[digit] if segment not in dead]
    return "".join([segment for segment in SEGMENTS if segment in stuck or segment in fine])


def digits_by_pattern(faults):
    """A dict of all patterns that a place with faults shows: for each the ascending list of its digits."""
    found = {}
    for digit in range(10):
        found.setdefault(faulty_pattern(faults, digit), []).append(digit)
    return found


def first_true(flags):
    """The index of the first one that is True, the number of all if none is."""
    return flags.index(True) if True in flags else len(flags)


def first_contrary(tests, segment):
    """For dead, fine and stuck the index of the first test that this segment can't have if it is so.

    The number of the tests if there is no such test. Nothing is checked.
    """
    seen = [segment in pattern for _, pattern in tests]
    wrong = [(segment in PATTERNS[digit]) != (segment in pattern) for digit, pattern in tests]
    unseen = [not flag for flag in seen]
    return (first_true(seen), first_true(wrong), first_true(unseen))


def states_left(tests):
    """For each segment the letters of what it is in some faults that fit; nothing is checked."""
    return [
        "".join([state for state, first in zip(STATES, first_contrary(tests, segment)) if first == len(tests)])
        for segment in SEGMENTS
    ]


def digits_wanted(letters, segment):
    """A list of lists of digits: one of each must be shown to tell what a segment is, if it is one of these."""
    found = []
    # A dead segment is betrayed where it should be lit, a stuck one where it should not.
    if "d" in letters and "f" in letters:
        found.append([digit for digit in range(10) if segment in PATTERNS[digit]])
    if "f" in letters and "s" in letters:
        found.append([digit for digit in range(10) if segment not in PATTERNS[digit]])
    return found


def has_one_of_each(digits, wanted):
    """Whether at least one of some digits is in each of several lists."""
    for some in wanted:
        if not any([digit in some for digit in digits]):
            return False
    return True


def shortest_choice(wanted):
    """The shortest ascending list of digits with one of each of these lists, of several the least one."""
    for many in range(10):
        for digits in combinations(range(10), many):
            if has_one_of_each(digits, wanted):
                return list(digits)
    return list(range(10))


def seen_with(faults, digit):
    """The pattern that a place with faults shows for a digit."""
    check_faults(faults)
    check_digit(digit)
    return faulty_pattern(faults, digit)


def digits_alike(faults):
    """The ascending list of the ascending lists of two or more digits that look the same."""
    check_faults(faults)
    return [digits for digits in digits_by_pattern(faults).values() if len(digits) > 1]


def can_tell(faults):
    """Whether no two digits look the same."""
    check_faults(faults)
    return len(digits_by_pattern(faults)) == 10


def read_with(faults, pattern):
    """The ascending list of the digits that look like a pattern."""
    check_faults(faults)
    check_pattern(pattern)
    return digits_by_pattern(faults).get(pattern, [])


def numbers_seen(row, picture):
    """The ascending list of the numbers that look like a picture, if the places have these faults."""
    check_row(row)
    check_patterns(picture, len(row))
    numbers = [0]
    for faults, pattern in zip(row, picture):
        digits = digits_by_pattern(faults).get(pattern, [])
        numbers = [number * 10 + digit for number in numbers for digit in digits]
    return numbers


def segment_states(tests):
    """For each segment the letters of what it is in some faults that fit the tests."""
    check_tests(tests)
    found = states_left(tests)
    if "" in found:
        raise Impossible("no faults fit the tests")
    return found


def first_contradiction(tests):
    """The index of the first test with which no faults fit any more, None if there is none."""
    check_tests(tests)
    index = min([max(first_contrary(tests, segment)) for segment in SEGMENTS])
    return index if index < len(tests) else None


def count_faults(tests):
    """How many faults fit the tests."""
    check_tests(tests)
    many = 1
    for letters in states_left(tests):
        many = many * len(letters)
    return many


def next_digits(tests):
    """The fewest digits that, if they are shown next, surely tell what each segment is."""
    found = segment_states(tests)
    return shortest_choice(
        [digits for letters, segment in zip(found, SEGMENTS) for digits in digits_wanted(letters, segment)]
    )
