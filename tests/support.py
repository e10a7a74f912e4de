"""What several tests need: records, values of every kind, and a way to expect an error."""

import unittest

from ringreads.errors import InvalidRecords, RingError

THREE = [(0, 2), (1, 2), (2, 1)]
APART = [(0, 2), (1, 2)]
LATE = [(0, 2, 0), (1, 2, 0), (2, 1, 5)]

HUGE = 10 ** 100 - 1
NOT_NUMBERS = [
    None, True, False, "", "0", "1", "4", "nearest", [], [1], [0, 1, 2], [[[[1]]]], (), (1,), (0, 2), ((0, 2),),
    {}, {"marks": 4}, {"0": [(0, 2)]}, [(0, 2), {"a": [None, True]}], [None] * 200, RingError("a"), InvalidRecords(0),
]
NOT_LISTS = [
    None, True, False, 0, 1, 4, -1, HUGE, -HUGE, "", "0+2", "abc", (), (0, 2), ((0, 2), (1, 2), (2, 1)), (0, 1, 2),
    {}, {"0": (0, 2)}, {"a": 0, "b": 1, "c": 2}, ([0, 1, 2],), RingError("a"), InvalidRecords(0),
]
NO_RECORDS = [
    None, True, 0, 2, HUGE, "", "02", "0+2", [], [0, 2], (), (0,), (0, 1, 2), ((0, 2),), ((0, 2), (0, 2)), {}, {"0": 2},
    {"a": 0, "b": 2}, (None, 2), (0, None), (True, 2), (False, 2), (0, True), ("0", 2), (0, "2"), ([0], 2), (0, [2]),
    (0, (2,)), ({}, 2), (-1, 2), (4, 2), (HUGE, 2), (-HUGE, 2), (0, 0), (0, -1), (0, 10 ** 31 + 1), (0, HUGE),
    (0, -HUGE), [[[[]]]], (((0, 2), 0), 2), RingError("a"), (InvalidRecords(0), 2), (0, InvalidRecords(0)),
]
NO_ARRIVALS = [item for item in NO_RECORDS if item != (0, 1, 2)] + [
    (0, 2), [0, 2, 0], (0, 2, 0, 0), ((0, 2), 0), (0, (2, 0)), ((0, 2, 0),), (None, 2, 0), (0, None, 0), (0, 2, None),
    (True, 2, 0), (0, True, 0), (0, 2, True), (0, 2, False), ("0", 2, 0), (0, "2", 0), (0, 2, "0"), (-1, 2, 0),
    (4, 2, 0), (0, 0, 0), (0, -1, 0), (0, 2, -1), (0, 10 ** 31 + 1, 0), (0, 2, 10 ** 31 + 1), (HUGE, 2, 0),
    (0, HUGE, 0), (0, 2, HUGE), (0, 2, -HUGE), (0, 2, [0]), (0, 2, (0,)), (0, 2, {}), (0, 2, RingError("a")),
]
ANY_VALUES = NOT_NUMBERS + NOT_LISTS + NO_RECORDS + [2, 3, -1, HUGE, "mark", "split", ("mark",), ("split",)]


def wrong_marks():
    """Values that are no number of marks, each with the error."""
    numbers = [0, -1, -4, 10 ** 30 + 1, 10 ** 31, HUGE, -HUGE]
    return [(value, "InvalidMarks", {}) for value in NOT_NUMBERS + numbers]


def wrong_records():
    """Values that are no records of a ring of 4 marks, each with the error."""
    lists = [([], None), ([(0, 2)] * 31, None), ([(0, 2)] * 200, None), ([None] * 31, None), ([[[[]]]], 0)]
    for item in NO_RECORDS:
        lists += [([item], 0), ([(0, 2), item], 1), ([(3, 10 ** 31), (0, 1), item, item, (0, 2)], 2)]
        lists += [([(0, 2)] * 29 + [item], 29)]
    return [(value, "InvalidRecords", {"index": index}) for value, index in [(v, None) for v in NOT_LISTS] + lists]


def wrong_mark():
    """Values that are no mark of a ring of 4 marks, each with the error."""
    return [(value, "InvalidMark", {}) for value in NOT_NUMBERS + [-1, 4, 5, 10 ** 30, HUGE, -HUGE]]


def wrong_trip():
    """Values that are no trip of three records, each with the error."""
    lists = [([], None), ([0], None), ([0, 1], None), ([0, 1, 2, 3], None), ([0, 1, 2, 0], None), ([None] * 200, None)]
    for item in NOT_NUMBERS + [-1, -2, 3, 4, HUGE, -HUGE]:
        lists += [([item, 1, 2], 0), ([0, item, 1], 1), ([0, 1, item], 2), ([2, item, item], 1), ([item] * 3, 0)]
    lists += [([0, 0, 1], 1), ([0, 1, 1], 2), ([0, 1, 0], 2), ([1, 1, 1], 1), ([2, 2, 3], 1), ([1, True, 2], 1)]
    lists += [([0, False, 1], 1), ([0, 2, 2], 2), ([0, 3, 3], 1)]
    return [(value, "InvalidOrder", {"index": index}) for value, index in [(v, None) for v in NOT_LISTS] + lists]


def wrong_lap():
    """Values that are no lap of three records, each with the error."""
    starts = [[1, 0, 2], [2, 1, 0], [1, 1, 1], [2, 3, 3], [False, 1, 2], [-1, 0, 1], [3, 0, 1]]
    trips = [row for row in wrong_trip() if type(row[0]) != list or len(row[0]) != 3 or row[0][0] == 0]
    return trips + [(value, "InvalidOrder", {"index": 0}) for value in starts]


def wrong_record():
    """Values that are no record of a ring of 4 marks, each with the error."""
    return [(value, "InvalidRecord", {}) for value in NO_RECORDS + NOT_NUMBERS[:-3] if value != (0, 2)]


def wrong_heads():
    """Values that are no heads on a ring of 4 marks, each with the error."""
    lists = [([], None), ([0] * 7, None), ([4] * 7, None), ([None] * 200, None)]
    for item in NOT_NUMBERS + [-1, 4, 5, 10 ** 30, HUGE, -HUGE]:
        lists += [([item], 0), ([0, item], 1), ([3, 3, item, item], 2), ([0, 1, 2, 3, 0, item], 5), ([item, 0], 0)]
    return [(value, "InvalidHeads", {"index": index}) for value, index in [(v, None) for v in NOT_LISTS] + lists]


def wrong_rule():
    """Values that are no name of a rule, each with the error."""
    names = ["Nearest", "nearest ", " listed", "LISTED", "near", "longest shortest", "briefs", "rule", "other"]
    more = [["nearest"], ("listed",), {"brief": "brief"}, 2, -1, HUGE, -HUGE]
    return [(value, "InvalidRule", {}) for value in NOT_NUMBERS + names + more if value != "nearest"]


def wrong_arrivals():
    """Values that are no arrivals on a ring of 4 marks, each with the error."""
    lists = [([], None), ([(0, 2, 0)] * 31, None), ([None] * 200, None), ([[[[]]]], 0)]
    for item in NO_ARRIVALS:
        lists += [([item], 0), ([(0, 2, 0), item], 1), ([(3, 10 ** 31, 10 ** 31), (0, 1, 0), item, item], 2)]
        lists += [([(0, 2, 5)] * 29 + [item], 29)]
    return [(value, "InvalidArrivals", {"index": index}) for value, index in [(v, None) for v in NOT_LISTS] + lists]


def wrong_number(integers):
    """Values that are no integer in a range, with those integers that are not in it, each with the error."""
    return [(value, "InvalidNumber", {}) for value in NOT_NUMBERS + integers]


class RingTest(unittest.TestCase):
    """A test case that can expect an error of the package, of just this class and with just these fields."""

    def raised(self, function, *args, **named):
        before = repr((args, named))
        try:
            result = function(*args, **named)
        except RingError as error:
            self.assertEqual(repr((args, named)), before, "a call that raises an error changes nothing")
            return error
        self.fail(f"{function.__name__} of {before} returned {result!r} and raised nothing")

    def expect(self, name, fields, function, *args, **named):
        error = self.raised(function, *args, **named)
        called = f"{function.__name__} of {args!r} {named!r}"
        self.assertEqual(type(error).__name__, name, called)
        self.assertEqual(type(error).__module__, "ringreads.errors")
        self.assertIsInstance(error, ValueError)
        # A repr tells 0 and 1 from False and True.
        self.assertEqual(repr(vars(error)), repr(fields), called)
