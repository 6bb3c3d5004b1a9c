"""The seven segments, their patterns, and the digits that the patterns show."""

from litdigits.errors import InvalidDigit, InvalidPattern
from litdigits.integers import is_within

SEGMENTS = "abcdefg"

# The pattern of each digit, at the index of this digit.
PATTERNS = ("abcdef", "bc", "abdeg", "abcdg", "bcfg", "acdfg", "acdefg", "abc", "abcdefg", "abcdfg")


def is_pattern(value):
    """Whether any value is a pattern."""
    if not isinstance(value, str):
        return False
    return value == "".join([segment for segment in SEGMENTS if segment in value])


def check_pattern(value):
    """Raise InvalidPattern unless a value is a pattern."""
    if not is_pattern(value):
        raise InvalidPattern("a pattern is a string of different segments in ascending sequence")


def is_digit(value):
    """Whether a value is a digit."""
    return is_within(value, 0, 9)


def check_digit(value):
    """Raise InvalidDigit unless a value is a digit."""
    if not is_digit(value):
        raise InvalidDigit("a digit is an integer from 0 to 9")


def pattern_of(digit):
    """The pattern of a digit."""
    check_digit(digit)
    return PATTERNS[digit]


def digit_of(pattern):
    """The digit with a pattern, None if there is none."""
    check_pattern(pattern)
    for digit, known in enumerate(PATTERNS):
        if known == pattern:
            return digit
    return None


def union_of(one, other):
    """The pattern of all segments that at least one of two patterns has."""
    check_pattern(one)
    check_pattern(other)
    return "".join([segment for segment in SEGMENTS if segment in one or segment in other])


def common_of(one, other):
    """The pattern of all segments that both patterns have."""
    check_pattern(one)
    check_pattern(other)
    return "".join([segment for segment in SEGMENTS if segment in one and segment in other])


def torn_digit(one, other):
    """The digit that the segments of two digits show together, None if there is none."""
    check_digit(one)
    check_digit(other)
    return digit_of(union_of(PATTERNS[one], PATTERNS[other]))


def has_all(pattern, segments):
    """Whether a pattern has all of these segments."""
    return all([segment in pattern for segment in segments])


def digits_within(pattern):
    """The ascending list of the digits that have no segment but those of a pattern."""
    check_pattern(pattern)
    return [digit for digit, known in enumerate(PATTERNS) if has_all(pattern, known)]


def digits_about(pattern):
    """The ascending list of the digits that have all segments of a pattern."""
    check_pattern(pattern)
    return [digit for digit, known in enumerate(PATTERNS) if has_all(known, pattern)]
