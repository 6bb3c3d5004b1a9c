"""The errors of the package: each of them is a direct subclass of LitError."""


class LitError(ValueError):
    """The base of all errors; takes one string."""


class InvalidPlace(LitError):
    """No place of the display."""


class InvalidTick(LitError):
    """No tick, or none that can stand there."""


class InvalidNumber(LitError):
    """No integer, or one beyond its limits."""


class InvalidDigit(LitError):
    """No integer from 0 to 9."""


class InvalidPattern(LitError):
    """No string of different segments in ascending sequence."""


class Impossible(LitError):
    """Nothing fits what is known."""


class NothingToUndo(LitError):
    """Every call is taken back already."""


class InvalidCommand(LitError):
    """No command of the console."""


class InvalidDisplay(LitError):
    """No display: index is that of the first wrong item, None if there are no four items."""

    def __init__(self, index):
        super().__init__(f"no display, wrong item: {index}")
        self.index = index


class InvalidCamera(LitError):
    """No camera: index is that of the first wrong item, None if there are no two items."""

    def __init__(self, index):
        super().__init__(f"no camera, wrong item: {index}")
        self.index = index


class InvalidHistory(LitError):
    """No history: index is that of the first wrong item, None if there are no two items."""

    def __init__(self, index):
        super().__init__(f"no history, wrong item: {index}")
        self.index = index


class InvalidPicture(LitError):
    """No picture: index is that of the first wrong item, None if it is no list of as many as asked."""

    def __init__(self, index):
        super().__init__(f"no picture, wrong item: {index}")
        self.index = index


class InvalidFilm(LitError):
    """No film: index is that of the first wrong item, None if it is no list or a too long one."""

    def __init__(self, index):
        super().__init__(f"no film, wrong item: {index}")
        self.index = index


class InvalidFaults(LitError):
    """No faults: index is that of the first wrong item, None if the number of items is wrong."""

    def __init__(self, index):
        super().__init__(f"no faults, wrong item: {index}")
        self.index = index


class InvalidTests(LitError):
    """No tests: index is that of the first wrong item, None if they are no list or a too long one."""

    def __init__(self, index):
        super().__init__(f"no tests, wrong item: {index}")
        self.index = index


class InvalidCounter(LitError):
    """No counter: index is that of the first wrong item, None if there are no three items."""

    def __init__(self, index):
        super().__init__(f"no counter, wrong item: {index}")
        self.index = index


class TooLarge(LitError):
    """An answer would have more items than the limit."""

    def __init__(self, limit):
        super().__init__(f"more than the limit: {limit}")
        self.limit = limit


class InvalidSyntax(LitError):
    """No such text: word is the index of the first wrong word, None if it is no string."""

    def __init__(self, word):
        super().__init__(f"no such text, wrong word: {word}")
        self.word = word
