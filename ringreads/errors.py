"""The errors of the package: each one is a direct subclass of RingError."""


class RingError(ValueError):
    """What every error of the package is."""


class InvalidMarks(RingError):
    """The number of marks is no integer from 1 to 10 ** 30."""


class InvalidRecords(RingError):
    """A list of records is wrong: at index, or as a whole if index is None."""

    def __init__(self, index):
        super().__init__(f"not a list of records of the ring, index {index}")
        self.index = index


class InvalidRecord(RingError):
    """A value is no record of the ring."""


class InvalidOrder(RingError):
    """A lap or a trip is wrong: at index, or as a whole if index is None."""

    def __init__(self, index):
        super().__init__(f"not an order of the records, index {index}")
        self.index = index


class InvalidMark(RingError):
    """A value is no mark of the ring."""


class InvalidHeads(RingError):
    """A list of heads is wrong: at index, or as a whole if index is None."""

    def __init__(self, index):
        super().__init__(f"not a list of heads on the ring, index {index}")
        self.index = index


class InvalidRule(RingError):
    """A value is not the name of a rule."""


class InvalidArrivals(RingError):
    """A list of arrivals is wrong: at index, or as a whole if index is None."""

    def __init__(self, index):
        super().__init__(f"not a list of arrivals on the ring, index {index}")
        self.index = index


class InvalidWindows(RingError):
    """A list of windows is wrong: at index, or as a whole if index is None."""

    def __init__(self, index):
        super().__init__(f"not a list of windows of the ring, index {index}")
        self.index = index


class InvalidNumber(RingError):
    """A number is no integer in its range."""


class InvalidCommand(RingError):
    """A value is no command of the console."""


class InvalidText(RingError):
    """A text is wrong: at the word with a number, or no string at all if word is None."""

    def __init__(self, word):
        super().__init__(f"not such a text, word {word}")
        self.word = word


class Impossible(RingError):
    """What is asked for does not exist."""


class TooLarge(RingError):
    """There are more things than a limit allows."""

    def __init__(self, limit):
        super().__init__(f"more than {limit}")
        self.limit = limit


class Refused(RingError):
    """A drum takes no further record while so many are waiting."""

    def __init__(self, count):
        super().__init__(f"{count} records are waiting already")
        self.count = count


class NothingToUndo(RingError):
    """There is no call that could be reverted."""
