"""What several tests need: records, values of every kind, and a way to expect an error."""

import unittest

from ringreads.console import Console
from ringreads.drums import Drum
from ringreads.errors import InvalidRecords, RingError

THREE = [(0, 2), (1, 2), (2, 1)]
APART = [(0, 2), (1, 2)]
LATE = [(0, 2, 0), (1, 2, 0), (2, 1, 5)]

HUGE = 10 ** 100 - 1
DRUM = Drum(4, 0)
CONSOLE = Console()
NOT_NUMBERS = [
    DRUM, CONSOLE,
    None, True, False, "", "0", "1", "4", "nearest", [], [1], [0, 1, 2], [[[[1]]]], (), (1,), (0, 2), ((0, 2),),
    {}, {"marks": 4}, {"0": [(0, 2)]}, [(0, 2), {"a": [None, True]}], [None] * 200, RingError("a"), InvalidRecords(0),
]
NOT_LISTS = [
    DRUM, CONSOLE, None, True, False, 0, 1, 4, -1, HUGE, -HUGE, "", "0+2", "abc", (), (0, 2),
    ((0, 2), (1, 2), (2, 1)), (0, 1, 2), {}, {"0": (0, 2)}, {"a": 0, "b": 1, "c": 2}, ([0, 1, 2],),
    RingError("a"), InvalidRecords(0),
]
NO_RECORDS = [
    None, True, 0, 2, HUGE, "", "02", "0+2", [], [0, 2], (), (0,), (0, 1, 2), ((0, 2),), ((0, 2), (0, 2)), {}, {"0": 2},
    {"a": 0, "b": 2}, (None, 2), (0, None), (True, 2), (False, 2), (0, True), ("0", 2), (0, "2"), ([0], 2), (0, [2]),
    (0, (2,)), ({}, 2), (-1, 2), (4, 2), (HUGE, 2), (-HUGE, 2), (0, 0), (0, -1), (0, 10 ** 31 + 1), (0, HUGE),
    (0, -HUGE), [[[[]]]], (((0, 2), 0), 2), RingError("a"), (InvalidRecords(0), 2), (0, InvalidRecords(0)),
    DRUM, (DRUM, 2), (0, DRUM), (0, CONSOLE),
]
NO_ARRIVALS = [item for item in NO_RECORDS if item != (0, 1, 2)] + [
    (0, 2), [0, 2, 0], (0, 2, 0, 0), ((0, 2), 0), (0, (2, 0)), ((0, 2, 0),), (None, 2, 0), (0, None, 0), (0, 2, None),
    (True, 2, 0), (0, True, 0), (0, 2, True), (0, 2, False), ("0", 2, 0), (0, "2", 0), (0, 2, "0"), (-1, 2, 0),
    (4, 2, 0), (0, 0, 0), (0, -1, 0), (0, 2, -1), (0, 10 ** 31 + 1, 0), (0, 2, 10 ** 31 + 1), (HUGE, 2, 0),
    (0, HUGE, 0), (0, 2, HUGE), (0, 2, -HUGE), (0, 2, [0]), (0, 2, (0,)), (0, 2, {}), (0, 2, RingError("a")),
]
NO_WINDOWS = [item for item in NO_RECORDS if item != (0, 1, 2)] + [
    (1, 3), [1, 0, 3], (1, 0, 3, 3), ((1, 0), 3), (1, (0, 3)), ((1, 0, 3),), (None, 0, 3), (1, None, 3), (1, 0, None),
    (True, 0, 3), (1, True, 3), (1, False, 3), (1, 0, True), ("1", 0, 3), (1, "0", 3), (1, 0, "3"), (-1, 0, 3),
    (4, 0, 3), (1, -1, 3), (1, -2, -1), (1, 3, 2), (1, 1, 0), (1, 10 ** 31 + 1, 10 ** 31 + 1), (1, 0, 10 ** 31 + 1),
    (HUGE, 0, 3), (1, HUGE, HUGE), (1, 0, HUGE), (1, -HUGE, 3), (1, 0, -HUGE), (1, [0], 3), (1, 0, {}), (1, 0, DRUM),
]
NO_TEXTS = [value for value in NOT_LISTS + NOT_NUMBERS + NO_RECORDS if type(value) is not str]
# No one of these words tells a number.
NO_WORDS = [
    "", "a", "x1", "1x", "-1", "+1", "--1", "00", "01", "007", "0x1", "1.0", "1e3", "1_0", "1,0", "1;", "(1)", "'1'",
    "\t1", "1\n", "\n", "0" * 33, "1" + "0" * 32, "9" * 33, "9" * 200, "\u0661", "\u00b2", "\uff11", "\u0967",
    "1\u0661", "None", "True", "nearest", "+", "++", "-",
]
ANY_VALUES = NOT_NUMBERS + NOT_LISTS + NO_RECORDS + [2, 3, -1, HUGE, "mark", "split", ("mark",), ("split",)]


def wrong_marks():
    """Values that are no number of marks, each with the error."""
    numbers = [0, -1, -4, 10 ** 30 + 1, 10 ** 31, HUGE, -HUGE]
    return [(value, "InvalidMarks", {}) for value in NOT_NUMBERS + numbers]


def wrong_records():
    """Values that are no records of a ring of 4 marks, each with the error."""
    lists = [([], None), ([(0, 2)] * 31, None), ([(0, 2)] * 200, None), ([None] * 31, None), ([[[[]]]], 0)]
    for item in NO_RECORDS:
        lists += [([item], 0), ([(0, 2), item], 1), ([(3, 10 ** 31), (0, 1), item, item, (0, 2)], 2)]
        lists += [([(0, 2)] * 29 + [item], 29)]
    return [(value, "InvalidRecords", {"index": index}) for value, index in [(v, None) for v in NOT_LISTS] + lists]


def wrong_mark():
    """Values that are no mark of a ring of 4 marks, each with the error."""
    return [(value, "InvalidMark", {}) for value in NOT_NUMBERS + [-1, 4, 5, 10 ** 30, HUGE, -HUGE]]


def wrong_trip():
    """Values that are no trip of three records, each with the error."""
    lists = [([], None), ([0], None), ([0, 1], None), ([0, 1, 2, 3], None), ([0, 1, 2, 0], None), ([None] * 200, None)]
    for item in NOT_NUMBERS + [-1, -2, 3, 4, HUGE, -HUGE]:
        lists += [([item, 1, 2], 0), ([0, item, 1], 1), ([0, 1, item], 2), ([2, item, item], 1), ([item] * 3, 0)]
    lists += [([0, 0, 1], 1), ([0, 1, 1], 2), ([0, 1, 0], 2), ([1, 1, 1], 1), ([2, 2, 3], 1), ([1, True, 2], 1)]
    lists += [([0, False, 1], 1), ([0, 2, 2], 2), ([0, 3, 3], 1)]
    return [(value, "InvalidOrder", {"index": index}) for value, index in [(v, None) for v in NOT_LISTS] + lists]


def wrong_lap():
    """Values that are no lap of three records, each with the error."""
    starts = [[1, 0, 2], [2, 1, 0], [1, 1, 1], [2, 3, 3], [False, 1, 2], [-1, 0, 1], [3, 0, 1]]
    trips = [row for row in wrong_trip() if type(row[0]) != list or len(row[0]) != 3 or row[0][0] == 0]
    return trips + [(value, "InvalidOrder", {"index": 0}) for value in starts]


def wrong_record():
    """Values that are no record of a ring of 4 marks, each with the error."""
    return [(value, "InvalidRecord", {}) for value in NO_RECORDS + NOT_NUMBERS[:-3] if value != (0, 2)]


def wrong_heads():
    """Values that are no heads on a ring of 4 marks, each with the error."""
    lists = [([], None), ([0] * 7, None), ([4] * 7, None), ([None] * 200, None)]
    for item in NOT_NUMBERS + [-1, 4, 5, 10 ** 30, HUGE, -HUGE]:
        lists += [([item], 0), ([0, item], 1), ([3, 3, item, item], 2), ([0, 1, 2, 3, 0, item], 5), ([item, 0], 0)]
    return [(value, "InvalidHeads", {"index": index}) for value, index in [(v, None) for v in NOT_LISTS] + lists]


def wrong_rule():
    """Values that are no name of a rule, each with the error."""
    names = ["Nearest", "nearest ", " listed", "LISTED", "near", "longest shortest", "briefs", "rule", "other"]
    more = [["nearest"], ("listed",), {"brief": "brief"}, 2, -1, HUGE, -HUGE]
    return [(value, "InvalidRule", {}) for value in NOT_NUMBERS + names + more if value != "nearest"]


def wrong_arrivals():
    """Values that are no arrivals on a ring of 4 marks, each with the error."""
    lists = [([], None), ([(0, 2, 0)] * 31, None), ([None] * 200, None), ([[[[]]]], 0)]
    for item in NO_ARRIVALS:
        lists += [([item], 0), ([(0, 2, 0), item], 1), ([(3, 10 ** 31, 10 ** 31), (0, 1, 0), item, item], 2)]
        lists += [([(0, 2, 5)] * 29 + [item], 29)]
    return [(value, "InvalidArrivals", {"index": index}) for value, index in [(v, None) for v in NOT_LISTS] + lists]


def wrong_windows():
    """Values that are no windows of a ring of 4 marks, each with the error."""
    lists = [([], None), ([(1, 0, 3)] * 31, None), ([None] * 200, None), ([[[[]]]], 0)]
    for item in NO_WINDOWS:
        lists += [([item], 0), ([(1, 0, 3), item], 1), ([(3, 10 ** 31, 10 ** 31), (0, 0, 0), item, item], 2)]
        lists += [([(1, 0, 3)] * 29 + [item], 29)]
    return [(value, "InvalidWindows", {"index": index}) for value, index in [(v, None) for v in NOT_LISTS] + lists]


def wrong_records_text():
    """Values that are no text of records of a ring of 4 marks, each with the error."""
    texts = [("", 0), (" ", 0), ("  ", 0), ("0+2 ", 1), (" 0+2", 0), ("0+2  1+2", 1), ("0+2 1+2 ", 2), ("0+2\n1+2", 0)]
    texts += [(" ".join(["0+2"] * 31), 30), (" ".join(["0+2"] * 40), 30), (" ".join(["0+2"] * 30 + ["x"]), 30)]
    texts += [(" ".join(["0+2"] * 30) + " ", 30), ("0,2", 0), ("0+2,1+2", 0), ("[(0, 2)]", 0), ("0 + 2", 0), ("0 2", 0)]
    wrong = [word + "+2" for word in NO_WORDS] + ["0+" + word for word in NO_WORDS] + NO_WORDS[1:] + [
        "0", "2", "0+2+1", "0++2", "+0+2", "0+2+", "0-2", "0+-2", "4+1", "5+1", f"{10 ** 30}+1", f"{10 ** 31}+1", "0+0",
        f"0+{10 ** 31 + 1}", f"0+{10 ** 32 - 1}", "0:2", "(0,2)",
    ]
    for word in wrong:
        texts += [(word, 0), (word + " 0+2", 0), ("0+2 " + word, 1), ("3+1 0+2 " + word + " " + word + " 0+2", 2)]
        texts += [(" ".join(["0+2"] * 29 + [word]), 29)]
    # A word with a space is two words, and the empty one alone is none.
    return [(value, "InvalidText", {"word": word}) for value, word in [(v, None) for v in NO_TEXTS] + texts]


def wrong_trip_text():
    """Values that are no text of a trip of three records, each with the error."""
    texts = [("", 0), (" ", 0), ("  ", 0), ("0", 1), ("0 2", 2), ("1 0 ", 2), ("0 ", 1), (" 0 1 2", 0), ("0  1 2", 1)]
    texts += [("0 1 2 ", 3), ("0 1 2 0", 3), ("0 1 2 3", 3), ("0 1 2 x", 3), ("0 1 2 3 4", 3), ("0 0 1", 1)]
    texts += [("0 1 1", 2), ("1 1 1", 1), ("2 0 2", 2), ("0,1,2", 0), ("0 1,2", 1), ("[0, 1, 2]", 0), ("0+1 2", 0)]
    texts += [("0 3", 1), ("2 2", 1)]
    for word in NO_WORDS + ["3", "4", "30", str(10 ** 31), "9" * 32]:
        texts += [(word + " 1 2", 0), ("0 " + word + " 1", 1), ("0 1 " + word, 2), ("2 " + word + " " + word, 1)]
        texts += [(word, 0), ("2 1 0 " + word, 3)] if word else []
    return [(value, "InvalidText", {"word": word}) for value, word in [(v, None) for v in NO_TEXTS] + texts]


def wrong_number(integers):
    """Values that are no integer in a range, with those integers that are not in it, each with the error."""
    return [(value, "InvalidNumber", {}) for value in NOT_NUMBERS + integers]


class RingTest(unittest.TestCase):
    """A test case that can expect an error of the package, of just this class and with just these fields."""

    def raised(self, function, *args, **named):
        before = repr((args, named))
        try:
            result = function(*args, **named)
        except RingError as error:
            self.assertEqual(repr((args, named)), before, "a call that raises an error changes nothing")
            return error
        self.fail(f"{function.__name__} of {before} returned {result!r} and raised nothing")

    def expect(self, name, fields, function, *args, **named):
        error = self.raised(function, *args, **named)
        called = f"{function.__name__} of {args!r} {named!r}"
        self.assertEqual(type(error).__name__, name, called)
        self.assertEqual(type(error).__module__, "ringreads.errors")
        self.assertIsInstance(error, ValueError)
        # A repr tells 0 and 1 from False and True.
        self.assertEqual(repr(vars(error)), repr(fields), called)
