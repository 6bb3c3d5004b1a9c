"""Texts of displays, histories and pictures: words with single spaces between them."""

from litdigits.displays import check_display, is_display
from litdigits.errors import InvalidSyntax
from litdigits.pictures import MOST_PRESSES, is_number
from litdigits.segments import is_pattern

MOST_DIGITS = 30

# The word of a place that is dark, because its pattern has no letters.
DARK_WORD = "-"


def number_in(word):
    """The number with a text, None if it is that of none."""
    digits = word.removeprefix("-")
    if not digits.isascii() or not digits.isdigit() or len(digits) > MOST_DIGITS:
        return None
    if digits[0] == "0" and word != "0":
        return None
    return int(word)


def words_in(text):
    """The list of the words of a text; raise InvalidSyntax if it is no string."""
    if not isinstance(text, str):
        raise InvalidSyntax(None)
    return text.split(" ")


def display_in(word, driver):
    """The display whose text has these two words, None if there is none."""
    places, _, rest = word.partition("x")
    slot, _, lit = rest.partition("/")
    display = (number_in(places), number_in(slot), number_in(lit), driver)
    return display if is_display(display) else None


def format_display(display):
    """The text of a display."""
    places, slot, lit, driver = display
    return f"{places}x{slot}/{lit} {driver}"


def format_history(history):
    """The text of a history."""
    number, presses = history
    return " ".join([f"{number}:"] + [str(press) for press in presses])


def format_picture(picture):
    """The text of a picture."""
    return " ".join([pattern if pattern else DARK_WORD for pattern in picture])


def parse_display(text):
    """The display with a text."""
    words = words_in(text)
    if display_in(words[0], "now") is None:
        raise InvalidSyntax(0)
    display = display_in(words[0], words[1]) if len(words) > 1 else None
    if display is None:
        raise InvalidSyntax(1)
    if len(words) > 2:
        raise InvalidSyntax(2)
    return display


def parse_history(display, text):
    """The history of a display with a text."""
    check_display(display)
    words = words_in(text)
    number = number_in(words[0].removesuffix(":"))
    if not words[0].endswith(":") or not is_number(display, number):
        raise InvalidSyntax(0)
    presses = []
    for index in range(1, len(words)):
        press = number_in(words[index])
        if press is None or index > MOST_PRESSES or (presses and press <= presses[-1]):
            raise InvalidSyntax(index)
        presses.append(press)
    return (number, presses)


def parse_picture(display, text):
    """The picture of a display with a text."""
    check_display(display)
    words = words_in(text)
    picture = []
    for index, word in enumerate(words):
        if word == "" or index >= display[0] or not (word == DARK_WORD or is_pattern(word)):
            raise InvalidSyntax(index)
        picture.append("" if word == DARK_WORD else word)
    if len(picture) < display[0]:
        raise InvalidSyntax(len(words))
    return picture
