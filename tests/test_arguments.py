"""Points [2] and [3]: what the parameters of all functions have in common, and the errors for wrong values."""

import copy
import inspect
import unittest
from itertools import combinations

from ringreads import arrivals, changes, counting, far, heads, layouts, orders, rings, rounds, rules, small, texts
from ringreads import trips, windows
from tests import support
from tests.support import APART, HUGE, LATE, THREE, RingTest

# For each function the arguments of a call, in the order of the signature, and what it returns.
CALLS = [
    (rings.is_records, {"marks": 4, "value": THREE}, True),
    (rings.ends_of, {"marks": 4, "records": THREE}, [2, 3, 3]),
    (rings.cover_at, {"marks": 4, "records": THREE, "mark": 1}, 2),
    (rings.covers, {"marks": 4, "records": THREE}, [(0, 1), (1, 2), (2, 2), (3, 0)]),
    (rings.most_cover, {"marks": 4, "records": THREE}, 2),
    (rings.moved, {"marks": 4, "records": THREE, "by": -1}, [(3, 2), (0, 2), (1, 1)]),
    (rings.moved, {"marks": 4, "records": THREE, "by": 0}, THREE),
    (rings.mirrored, {"marks": 4, "records": THREE}, [(2, 2), (1, 2), (1, 1)]),
    (rings.mirrored, {"marks": 4, "records": [(0, 4)]}, [(0, 4)]),
    (rings.multiplied, {"marks": 4, "records": THREE, "factor": 10}, [(0, 20), (10, 20), (20, 10)]),
    (rings.multiplied, {"marks": 4, "records": THREE, "factor": 1}, THREE),
    (orders.is_lap, {"marks": 4, "records": THREE, "value": [0, 2, 1]}, True),
    (orders.is_trip, {"marks": 4, "records": THREE, "value": [1, 0, 2]}, True),
    (orders.lap_waits, {"marks": 4, "records": THREE, "order": [0, 2, 1]}, [0, 2, 1]),
    (orders.lap_rounds, {"marks": 4, "records": THREE, "order": [0, 2, 1]}, 2),
    (orders.mirrored_lap, {"marks": 4, "records": THREE, "order": [0, 2, 1]}, [0, 1, 2]),
    (orders.mirrored_lap, {"marks": 4, "records": [(0, 4)], "order": [0]}, [0]),
    (orders.trip_begins, {"marks": 4, "records": THREE, "mark": 0, "order": [1, 0, 2]}, [1, 4, 6]),
    (orders.trip_ticks, {"marks": 4, "records": THREE, "mark": 0, "order": [1, 0, 2]}, 7),
    (rounds.fewest_rounds, {"marks": 4, "records": THREE}, 2),
    (rounds.least_lap, {"marks": 4, "records": THREE}, [0, 2, 1]),
    (rounds.least_lap, {"marks": 4, "records": [(0, 4)]}, [0]),
    (rounds.parts, {"marks": 4, "records": THREE}, [[0, 1, 2]]),
    (rounds.parts, {"marks": 2, "records": APART}, [[0], [1]]),
    (rounds.refusal, {"marks": 4, "records": THREE, "rounds": 1}, ("mark", 1)),
    (rounds.refusal, {"marks": 4, "records": THREE, "rounds": 2}, None),
    (rounds.refusal, {"marks": 2, "records": APART, "rounds": 2}, ("split", [0])),
    (rounds.shows_refusal, {"marks": 4, "records": THREE, "rounds": 1, "value": ("mark", 2)}, True),
    (rounds.shows_refusal, {"marks": 2, "records": APART, "rounds": 2, "value": ("split", [1])}, True),
    (counting.lap_count, {"marks": 4, "records": THREE}, 1),
    (counting.nth_lap, {"marks": 4, "records": THREE, "index": 0}, [0, 2, 1]),
    (counting.lap_index, {"marks": 4, "records": THREE, "order": [0, 2, 1]}, 0),
    (counting.follow_count, {"marks": 4, "records": THREE, "first": 0, "second": 2}, 1),
    (counting.may_follow, {"marks": 4, "records": THREE}, [(0, 2), (1, 0), (2, 1)]),
    (counting.must_follow, {"marks": 4, "records": THREE}, [(0, 2), (1, 0), (2, 1)]),
    (trips.trip_bounds, {"marks": 4, "records": THREE, "mark": 0}, [(2, 3, 10), (3, 2, 7)]),
    (trips.fewest_ticks, {"marks": 4, "records": THREE, "mark": 0}, 7),
    (trips.least_trip, {"marks": 4, "records": THREE, "mark": 0}, [0, 2, 1]),
    (trips.trip_count, {"marks": 4, "records": THREE, "mark": 0}, 2),
    (trips.best_begins, {"marks": 4, "records": THREE}, [1]),
    (changes.longest_length, {"marks": 4, "records": THREE, "index": 1}, 3),
    (changes.gap_at, {"marks": 4, "records": THREE, "mark": 3}, 2),
    (changes.added_rounds, {"marks": 4, "records": [(0, 4)], "record": (3, 2)}, 2),
    (changes.saved_rounds, {"marks": 4, "records": THREE, "index": 0}, 0),
    (changes.saved_rounds, {"marks": 2, "records": APART, "index": 1}, 2),
    (changes.cut_saves, {"marks": 4, "records": THREE, "index": 0, "length": 1}, 0),
    (changes.cut_saves, {"marks": 2, "records": APART, "index": 0, "length": 1}, 1),
    (rules.rule_trip, {"marks": 4, "records": THREE, "mark": 0, "rule": "nearest"}, [0, 2, 1]),
    (rules.rule_trip, {"marks": 4, "records": THREE, "mark": 0, "rule": "listed"}, [0, 1, 2]),
    (rules.rule_trip, {"marks": 4, "records": THREE, "mark": 0, "rule": "brief"}, [2, 0, 1]),
    (rules.rule_ticks, {"marks": 4, "records": THREE, "mark": 0, "rule": "listed"}, 11),
    (heads.pieces_ticks, {"marks": 4, "records": THREE, "heads": [0, 2]}, 4),
    (heads.pieces_mark, {"marks": 4, "records": THREE, "heads": [0, 2]}, 1),
    (heads.heads_run, {"marks": 4, "records": THREE, "heads": [0, 2]}, [(0, 0), (1, 3), (1, 0)]),
    (heads.heads_ticks, {"marks": 4, "records": THREE, "heads": [0, 2]}, 5),
    (heads.head_bounds, {"marks": 4, "records": THREE, "many": 2}, (1, 1)),
    (heads.head_bounds, {"marks": 2, "records": APART, "many": 1}, (2, 4)),
    (heads.head_plan, {"marks": 4, "records": [(0, 4)], "many": 3}, [[0], [], []]),
    (heads.head_plan, {"marks": 2, "records": APART, "many": 1}, [[0, 1]]),
    (heads.shows_head_plan, {"marks": 4, "records": THREE, "many": 2, "value": [[0, 2], [1]]}, True),
    (arrivals.arrival_run, {"marks": 4, "mark": 0, "arrivals": LATE}, [0, 5, 10]),
    (arrivals.arrival_ticks, {"marks": 4, "mark": 0, "arrivals": LATE}, 11),
    (arrivals.arrival_bound, {"marks": 4, "mark": 0, "arrivals": LATE}, 7),
    (arrivals.forcing_start, {"marks": 4, "many": 1}, [(0, 2, 0), (1, 2, 0)]),
    (arrivals.forcing_more, {"marks": 4, "many": 2, "first": 2, "second": 0}, [(2, 1, 8), (2, 1, 8)]),
    (arrivals.forced_ticks, {"marks": 3, "many": 2, "first": 2, "second": 0}, (18, 12)),
    (layouts.layout_rounds, {"blocks": 9, "reckoning": 2}, 4),
    (layouts.layout_ticks, {"blocks": 9, "reckoning": 2}, 27),
    (layouts.place_of, {"blocks": 9, "reckoning": 2, "block": 3}, 1),
    (layouts.block_at, {"blocks": 9, "reckoning": 2, "place": 5}, 7),
    (far.begin_tick, {"marks": 4, "records": THREE, "order": [0, 2, 1], "number": 10, "index": 1}, 85),
    (far.at_tick, {"marks": 4, "records": THREE, "order": [0, 2, 1], "tick": 7}, ("wait", 0, 1)),
    (far.at_tick, {"marks": 4, "records": THREE, "order": [0, 2, 1], "tick": 2}, ("read", 2, 0)),
    (windows.window_ticks, {"marks": 4, "heads": [0], "windows": [(1, 0, 3), (1, 0, 8)]}, [1, 5]),
    (windows.window_ticks, {"marks": 4, "heads": [0], "windows": [(1, 0, 3), (1, 0, 4)]}, None),
    (windows.shows_ticks, {"marks": 4, "heads": [0, 0], "windows": [(1, 0, 3), (1, 0, 4)], "value": [1, 1]}, True),
    (windows.jam, {"marks": 4, "heads": [0], "windows": [(1, 1, 1), (1, 1, 1)]}, (1, 1, 1)),
    (windows.jam, {"marks": 4, "heads": [0, 0], "windows": [(1, 0, 3), (1, 0, 4)]}, None),
    (windows.shows_jam, {"marks": 4, "heads": [0], "windows": [(1, 0, 3), (1, 0, 4)], "value": (1, 0, 4)}, True),
    (small.lap_table, {"marks": 4, "records": THREE}, [(2, 1), (3, 1)]),
    (small.trip_table, {"marks": 4, "records": THREE, "mark": 0}, [(7, 2), (10, 2), (11, 2)]),
    (small.most_kept, {"marks": 4, "records": THREE, "rounds": 1}, [0, 2]),
    (small.most_kept, {"marks": 4, "records": THREE, "rounds": 2}, [0, 1, 2]),
    (small.most_kept, {"marks": 4, "records": THREE, "rounds": 0}, []),
    (small.whole_ticks, {"marks": 4, "records": THREE, "heads": [0, 2]}, 4),
    (small.hindsight_ticks, {"marks": 4, "mark": 0, "arrivals": LATE}, 7),
    (texts.format_records, {"marks": 4, "records": THREE}, "0+2 1+2 2+1"),
    (texts.format_numbers, {"numbers": [0, 2, 1]}, "0 2 1"),
    (texts.parse_records, {"marks": 4, "text": "0+2 1+2 2+1"}, THREE),
    (texts.parse_trip, {"marks": 4, "records": THREE, "text": "1 0 2"}, [1, 0, 2]),
]
SIGNATURES = {
    rings: {
        "is_records": "marks, value", "ends_of": "marks, records", "cover_at": "marks, records, mark",
        "covers": "marks, records", "most_cover": "marks, records", "moved": "marks, records, by",
        "mirrored": "marks, records", "multiplied": "marks, records, factor",
    },
    orders: {
        "is_lap": "marks, records, value", "is_trip": "marks, records, value", "lap_waits": "marks, records, order",
        "lap_rounds": "marks, records, order", "mirrored_lap": "marks, records, order",
        "trip_begins": "marks, records, mark, order", "trip_ticks": "marks, records, mark, order",
    },
    rounds: {
        "fewest_rounds": "marks, records", "least_lap": "marks, records", "parts": "marks, records",
        "refusal": "marks, records, rounds", "shows_refusal": "marks, records, rounds, value",
    },
    counting: {
        "lap_count": "marks, records", "nth_lap": "marks, records, index", "lap_index": "marks, records, order",
        "follow_count": "marks, records, first, second", "may_follow": "marks, records",
        "must_follow": "marks, records",
    },
    trips: {
        "trip_bounds": "marks, records, mark", "fewest_ticks": "marks, records, mark",
        "least_trip": "marks, records, mark", "trip_count": "marks, records, mark", "best_begins": "marks, records",
    },
    changes: {
        "longest_length": "marks, records, index", "gap_at": "marks, records, mark",
        "added_rounds": "marks, records, record", "saved_rounds": "marks, records, index",
        "cut_saves": "marks, records, index, length",
    },
    rules: {"rule_trip": "marks, records, mark, rule", "rule_ticks": "marks, records, mark, rule"},
    heads: {
        "pieces_ticks": "marks, records, heads", "pieces_mark": "marks, records, heads",
        "heads_run": "marks, records, heads", "heads_ticks": "marks, records, heads",
        "head_bounds": "marks, records, many", "head_plan": "marks, records, many",
        "shows_head_plan": "marks, records, many, value",
    },
    arrivals: {
        "arrival_run": "marks, mark, arrivals", "arrival_ticks": "marks, mark, arrivals",
        "arrival_bound": "marks, mark, arrivals", "forcing_start": "marks, many",
        "forcing_more": "marks, many, first, second", "forced_ticks": "marks, many, first, second",
    },
    layouts: {
        "layout_rounds": "blocks, reckoning", "layout_ticks": "blocks, reckoning",
        "place_of": "blocks, reckoning, block", "block_at": "blocks, reckoning, place",
    },
    far: {"begin_tick": "marks, records, order, number, index", "at_tick": "marks, records, order, tick"},
    windows: {
        "window_ticks": "marks, heads, windows", "shows_ticks": "marks, heads, windows, value",
        "jam": "marks, heads, windows", "shows_jam": "marks, heads, windows, value",
    },
    small: {
        "lap_table": "marks, records", "trip_table": "marks, records, mark", "most_kept": "marks, records, rounds",
        "whole_ticks": "marks, records, heads", "hindsight_ticks": "marks, mark, arrivals",
    },
    texts: {
        "format_records": "marks, records", "format_numbers": "numbers", "parse_records": "marks, text",
        "parse_trip": "marks, records, text",
    },
}
# For each number of a call above integers that it cannot be there.
NUMBERS = {
    (rings.moved, "by"): [],
    (rings.multiplied, "factor"): [0, -1, -10, -HUGE],
    (rounds.refusal, "rounds"): [-1, -HUGE],
    (rounds.shows_refusal, "rounds"): [-1, -HUGE],
    (counting.nth_lap, "index"): [-1, -HUGE, 1, 2, HUGE],
    (counting.follow_count, "first"): [-1, -HUGE, 3, 4, HUGE],
    (counting.follow_count, "second"): [-1, -HUGE, 3, 4, HUGE],
    (changes.longest_length, "index"): [-1, -HUGE, 3, 4, HUGE],
    (changes.saved_rounds, "index"): [-1, -HUGE, 3, 4, HUGE],
    (changes.cut_saves, "index"): [-1, -HUGE, 3, 4, HUGE],
    (changes.cut_saves, "length"): [0, -1, -HUGE, 2, 3, HUGE],
    (heads.head_bounds, "many"): [0, -1, -HUGE, 31, 32, HUGE],
    (heads.head_plan, "many"): [0, -1, -HUGE, 31, 32, HUGE],
    (heads.shows_head_plan, "many"): [0, -1, -HUGE, 31, 32, HUGE],
    (arrivals.forcing_start, "many"): [0, -1, -HUGE, 11, 12, HUGE],
    (arrivals.forcing_more, "many"): [0, -1, -HUGE, 11, 12, HUGE],
    (arrivals.forcing_more, "first"): [-1, -2, -HUGE],
    (arrivals.forcing_more, "second"): [-1, -2, -HUGE],
    (arrivals.forced_ticks, "many"): [0, -1, -HUGE, 11, 12, HUGE],
    (arrivals.forced_ticks, "first"): [-1, -2, -HUGE],
    (arrivals.forced_ticks, "second"): [-1, -2, -HUGE],
    (layouts.place_of, "block"): [-1, -9, -HUGE, 9, 10, 10 ** 30, HUGE],
    (layouts.block_at, "place"): [-1, -9, -HUGE, 9, 10, 10 ** 30, HUGE],
    (far.begin_tick, "number"): [-1, -HUGE, 10 ** 30 + 1, 10 ** 31, HUGE],
    (far.begin_tick, "index"): [-1, -HUGE, 3, 4, HUGE],
    (far.at_tick, "tick"): [-1, -HUGE, 10 ** 64, 10 ** 65, HUGE],
    (small.most_kept, "rounds"): [-1, -2, -HUGE],
}
for layout in (layouts.layout_rounds, layouts.layout_ticks, layouts.place_of, layouts.block_at):
    NUMBERS[layout, "blocks"] = [0, -1, -9, -HUGE, 10 ** 30 + 1, 10 ** 31, HUGE]
    NUMBERS[layout, "reckoning"] = [-1, -2, -HUGE, 10 ** 30 + 1, 10 ** 31, HUGE]
TRIPS = ("trip_begins", "trip_ticks")
WRONG = {
    "marks": support.wrong_marks, "records": support.wrong_records, "mark": support.wrong_mark,
    "record": support.wrong_record, "heads": support.wrong_heads, "rule": support.wrong_rule,
    "arrivals": support.wrong_arrivals, "windows": support.wrong_windows,
}
# Of these parameters no value is wrong, or only right ones are passed.
FREE = ("value", "numbers")


def wrong_values(function, parameter):
    """The wrong values of a parameter, each with the name and the fields of its error."""
    if parameter in FREE:
        return []
    if parameter == "text":
        return support.wrong_trip_text() if function == texts.parse_trip else support.wrong_records_text()
    if parameter == "order":
        return support.wrong_trip() if function.__name__ in TRIPS else support.wrong_lap()
    if parameter in WRONG:
        return WRONG[parameter]()
    return support.wrong_number(NUMBERS[function, parameter])


def lists_in(value):
    """All lists within a value, it itself too."""
    found = [value] if isinstance(value, list) else []
    for item in value if isinstance(value, (list, tuple)) else []:
        found += lists_in(item)
    return found


def first_calls():
    """One call of each function."""
    found = {}
    for function, arguments, _ in CALLS:
        found.setdefault(function, arguments)
    return found.items()


class InterfaceTest(unittest.TestCase):

    def test_each_function_stands_in_its_file_with_its_parameters(self):
        for module, signatures in SIGNATURES.items():
            for name, parameters in signatures.items():
                with self.subTest(name):
                    function = getattr(module, name)
                    self.assertEqual(function.__module__, module.__name__)
                    self.assertEqual(str(inspect.signature(function)), f"({parameters})")

    def test_each_function_is_called_here(self):
        listed = [getattr(module, name) for module, signatures in SIGNATURES.items() for name in signatures]
        self.assertEqual(listed, [function for function, _ in first_calls()])

    def test_by_position_and_by_name(self):
        for function, arguments, expected in CALLS:
            with self.subTest(function.__name__):
                backwards = {name: arguments[name] for name in reversed(list(arguments))}
                first, *others = arguments
                rest = {name: arguments[name] for name in others}
                for found in (function(*arguments.values()), function(**arguments), function(**backwards),
                              function(arguments[first], **rest)):
                    self.assertEqual(repr(found), repr(expected))

    def test_arguments_stay_as_they_are(self):
        for function, arguments, _ in CALLS:
            with self.subTest(function.__name__):
                passed = copy.deepcopy(arguments)
                function(**passed)
                self.assertEqual(repr(passed), repr(arguments))

    def test_returned_lists_are_new_and_nothing_is_kept(self):
        for function, arguments, expected in CALLS:
            with self.subTest(function.__name__):
                passed = copy.deepcopy(arguments)
                found = function(**passed)
                # Lists that are kept here have unlike ids.
                kept = [lists_in(value) for value in (list(passed.values()), found, function(**passed))]
                ids = [id(item) for lists in kept for item in lists]
                self.assertEqual(len(ids), len(set(ids)))
                for item in lists_in(found):
                    item.append("changed")
                self.assertEqual(repr(passed), repr(arguments))
                found = function(**passed)
                for item in kept[0]:
                    item.clear()
                self.assertEqual(repr(found), repr(expected))
                self.assertEqual(repr(function(**copy.deepcopy(arguments))), repr(expected))

    def test_lists_hold_tuples_and_integers_of_the_exact_kind(self):
        for function, arguments, expected in CALLS:
            if isinstance(expected, list):
                found = function(**arguments)
                self.assertIs(type(found), list)
                self.assertEqual([type(item) for item in found], [type(item) for item in expected])


class WrongValuesTest(RingTest):

    def test_every_wrong_value_of_every_parameter(self):
        for function, arguments in first_calls():
            for parameter in arguments:
                with self.subTest(function.__name__, parameter=parameter):
                    for value, name, fields in wrong_values(function, parameter):
                        passed = {**arguments, parameter: value}
                        self.expect(name, fields, function, **passed)
                        self.expect(name, fields, function, *passed.values())

    def test_every_parameter_but_the_free_ones_has_wrong_values(self):
        for function, arguments in first_calls():
            for parameter in arguments:
                self.assertEqual(wrong_values(function, parameter) == [], parameter in FREE, parameter)

    def test_the_error_of_the_first_wrong_parameter(self):
        for function, arguments in first_calls():
            for first, second in combinations(arguments, 2):
                later = wrong_values(function, second)
                for at, (value, name, fields) in enumerate(wrong_values(function, first)):
                    # Values of different kinds and indices meet as both lists are gone through.
                    for other, _, _ in later[at % 19::19]:
                        self.expect(name, fields, function, **{**arguments, first: value, second: other})

    def test_all_parameters_wrong(self):
        for function, arguments in first_calls():
            first = list(arguments)[0]
            for value, name, fields in [] if first in FREE else wrong_values(function, first):
                self.expect(name, fields, function, **{**arguments, **dict.fromkeys(arguments, value)})

    def test_any_value_beside_wrong_parameters(self):
        for value, _, _ in support.wrong_trip():
            self.expect("InvalidMarks", {}, rings.is_records, 0, value)
            for function in (orders.is_lap, orders.is_trip):
                self.expect("InvalidMarks", {}, function, 0, [], value)
                self.expect("InvalidRecords", {"index": None}, function, 4, [], value)
                self.expect("InvalidRecords", {"index": 2}, function, 4, [(0, 2), (1, 1), (4, 1)], value)

    def test_impossible_comes_last(self):
        huge = 10 ** 100 - 1
        self.expect("InvalidMarks", {}, rings.multiplied, 0, THREE, huge)
        self.expect("InvalidMarks", {}, rings.multiplied, 10 ** 30 + 1, THREE, 1)
        self.expect("InvalidRecords", {"index": 1}, rings.multiplied, 4, [(0, 10 ** 31), (0, 10 ** 31 + 1)], huge)
        self.expect("InvalidNumber", {}, rings.multiplied, 10 ** 30, [(0, 10 ** 31)], 0)
        self.expect("InvalidNumber", {}, rings.multiplied, 10 ** 30, [(0, 10 ** 31)], "2")
        self.expect("Impossible", {}, rings.multiplied, 10 ** 30, [(0, 10 ** 31)], 2)

    def test_values_at_the_border_of_greater_and_smaller_rings(self):
        for marks in (1, 2, 10 ** 30):
            ring = [(0, 1)]
            self.assertEqual(rings.cover_at(marks, [(marks - 1, 1)], marks - 1), 1)
            self.assertEqual(orders.trip_begins(marks, ring, marks - 1, [0]), [1 - 1 // marks])
            for function, more in ((rings.cover_at, []), (orders.trip_begins, [[0]]), (orders.trip_ticks, [[0]])):
                self.expect("InvalidMark", {}, function, marks, ring, marks, *more)
                self.expect("InvalidMark", {}, function, marks, ring, -1, *more)
            for function in (rings.ends_of, rings.covers, rings.most_cover, rings.mirrored):
                self.expect("InvalidRecords", {"index": 1}, function, marks, [(marks - 1, 10 ** 31), (marks, 1)])
                self.expect("InvalidRecords", {"index": 0}, function, marks, [(0, 10 ** 31 + 1), (marks, 1)])


if __name__ == "__main__":
    unittest.main()
