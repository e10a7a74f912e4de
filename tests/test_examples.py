"""The examples of the document, as they stand there."""

import unittest

from ringreads import errors

RECORDS = """
>>> three = [(0, 2), (1, 2), (2, 1)]
>>> apart = [(0, 2), (1, 2)]
>>> late = [(0, 2, 0), (1, 2, 0), (2, 1, 5)]
"""
RINGS = """
>>> from ringreads.rings import cover_at, covers, ends_of, is_records, mirrored, most_cover, moved, multiplied
>>> [is_records(4, value) for value in [three, [(4, 1)], [(0, 0)], [], [(3, 10 ** 31)], [[0, 2]], ((0, 2),)]], ends_of(4, three)
([True, False, False, False, True, False, False], [2, 3, 3])
>>> covers(4, three), most_cover(4, three), [cover_at(3, [(1, 10)], mark) for mark in range(3)], covers(2, apart)
([(0, 1), (1, 2), (2, 2), (3, 0)], 2, [3, 4, 3], [(0, 2), (1, 2)])
>>> moved(4, three, -1), mirrored(4, three), multiplied(4, three, 10)
([(3, 2), (0, 2), (1, 1)], [(2, 2), (1, 2), (1, 1)], [(0, 20), (10, 20), (20, 10)])
"""
ORDERS = """
>>> from ringreads.orders import is_lap, is_trip, lap_rounds, lap_waits, mirrored_lap, trip_begins, trip_ticks
>>> [is_lap(4, three, value) for value in [[0, 2, 1], [1, 0, 2], [0, 1], (0, 1, 2)]], is_trip(4, three, [1, 0, 2])
([True, False, False, False], True)
>>> lap_waits(4, three, [0, 2, 1]), lap_rounds(4, three, [0, 2, 1]), lap_rounds(4, three, [0, 1, 2]), mirrored_lap(4, three, [0, 2, 1])
([0, 2, 1], 2, 3, [0, 1, 2])
>>> trip_begins(4, three, 0, [1, 0, 2]), trip_ticks(4, three, 0, [1, 0, 2]), trip_ticks(4, three, 0, [0, 1, 2])
([1, 4, 6], 7, 11)
>>> lap_rounds(4, three, [0, 2, 2])
raises InvalidOrder(index=2)
"""
ROUNDS = """
>>> from ringreads.rounds import fewest_rounds, least_lap, parts, refusal, shows_refusal
>>> fewest_rounds(4, three), fewest_rounds(2, apart), fewest_rounds(1, [(0, 3), (0, 4)]), fewest_rounds(10 ** 30, [(5, 10 ** 30)])
(2, 3, 7, 1)
>>> parts(4, three), parts(2, apart), least_lap(4, three), refusal(2, apart, 3)
([[0, 1, 2]], [[0], [1]], [0, 2, 1], None)
>>> [shows_refusal(2, apart, 2, value) for value in [("split", [0]), ("split", [1]), ("split", [0, 1]), ("mark", 0)]], shows_refusal(2, apart, 1, ("mark", 0)), shows_refusal(2, apart, 1, ("split", [0]))
([True, True, False, False], True, False)
"""
COUNTING = """
>>> from ringreads.counting import follow_count, lap_count, lap_index, may_follow, must_follow, nth_lap
>>> lap_count(4, three), lap_count(2, apart), lap_count(3, [(0, 1)] * 3), nth_lap(3, [(0, 1)] * 3, 1), lap_index(4, three, [0, 2, 1])
(1, 1, 2, [0, 2, 1], 0)
>>> follow_count(3, [(0, 1)] * 3, 0, 1), must_follow(4, three), may_follow(3, [(0, 1)] * 3), lap_count(10 ** 30, [(7, 1)] * 30) == lap_count(2, [(0, 1)] * 30)
(1, [(0, 2), (1, 0), (2, 1)], [(0, 1), (0, 2), (1, 0), (1, 2), (2, 0), (2, 1)], True)
"""
TRIPS = """
>>> from ringreads.trips import best_begins, fewest_ticks, least_trip, trip_bounds, trip_count
>>> trip_bounds(4, three, 0), fewest_ticks(4, three, 0), least_trip(4, three, 0), trip_count(4, three, 0)
([(2, 3, 10), (3, 2, 7)], 7, [0, 2, 1], 2)
>>> [fewest_ticks(4, three, mark) for mark in (1, 2)], best_begins(4, three), trip_count(2, [(0, 1)], 1), fewest_ticks(2, [(0, 1)], 1)
([6, 8], [1], 1, 2)
"""
CHANGES = """
>>> from ringreads.changes import added_rounds, cut_saves, gap_at, longest_length, saved_rounds
>>> [longest_length(4, three, index) for index in range(3)], [gap_at(4, three, mark) for mark in (3, 1)]
([2, 3, 3], [2, 0])
>>> added_rounds(4, [(0, 4)], (3, 2)), added_rounds(4, three, (3, 2)), saved_rounds(4, three, 0), saved_rounds(2, apart, 1), cut_saves(2, apart, 0, 1)
(2, 0, 0, 2, 1)
"""
RULES = """
>>> from ringreads.rules import rule_ticks, rule_trip
>>> [rule_trip(4, three, 0, rule) for rule in ("nearest", "listed", "brief")], [rule_ticks(4, three, 0, rule) for rule in ("nearest", "listed", "brief")]
([[0, 2, 1], [0, 1, 2], [2, 0, 1]], [7, 11, 11])
>>> [rule_ticks(4, [(0, 1), (0, 4)], 0, rule) for rule in ("shortest", "longest")]
[8, 5]
"""
HEADS = """
>>> from ringreads.heads import heads_run, heads_ticks, pieces_mark, pieces_ticks
>>> [pieces_ticks(4, three, heads) for heads in ([0], [0, 2])], [pieces_mark(4, three, heads) for heads in ([0], [0, 2])], heads_run(4, three, [0, 2]), heads_ticks(4, three, [0, 2])
([7, 4], [2, 1], [(0, 0), (1, 3), (1, 0)], 5)
>>> from ringreads.heads import head_bounds, head_plan, shows_head_plan
>>> head_bounds(4, three, 2), head_bounds(2, apart, 1), head_bounds(4, three, 1)
((1, 1), (2, 4), (2, 2))
>>> [shows_head_plan(4, three, 2, value) for value in [[[0, 2], [1]], [[0, 1], [2]], [[1], [0, 2]], [[0, 2, 1], []], head_plan(4, three, 2)]]
[True, False, True, False, True]
"""
ARRIVALS = """
>>> from ringreads.arrivals import arrival_bound, arrival_run, arrival_ticks
>>> arrival_run(4, 0, late), arrival_ticks(4, 0, late), arrival_bound(4, 0, late)
([0, 5, 10], 11, 7)
>>> from ringreads.arrivals import forced_ticks, forcing_more, forcing_start
>>> forcing_start(3, 2), forcing_more(3, 2, 1, 1), forcing_more(3, 2, 2, 0), forced_ticks(3, 2, 1, 1), forced_ticks(3, 2, 2, 0)
([(0, 2, 0), (0, 2, 0), (1, 2, 0), (1, 2, 0)], [(0, 1, 6), (0, 1, 6)], [(2, 1, 6), (2, 1, 6)], (13, 12), (18, 12))
"""
LAYOUTS = """
>>> from ringreads.layouts import block_at, layout_rounds, layout_ticks, place_of
>>> [layout_rounds(blocks, 2) for blocks in (8, 9)], [layout_ticks(blocks, 2) for blocks in (8, 9)], [place_of(9, 2, block) for block in range(9)], block_at(9, 2, 5)
([3, 4], [22, 27], [0, 3, 6, 1, 4, 7, 2, 5, 8], 7)
>>> place_of(10 ** 30, 2, 10 ** 29) == 3 * 10 ** 29, layout_rounds(10 ** 30, 10 ** 30 - 1) == 10 ** 30 + 1
(True, True)
"""
FAR = """
>>> from ringreads.far import at_tick, begin_tick
>>> begin_tick(4, three, [0, 2, 1], 10, 1), [at_tick(4, three, [0, 2, 1], tick) for tick in (2, 4, 7)], at_tick(4, three, [0, 2, 1], 8 * 10 ** 30) == ("read", 0, 10 ** 30)
(85, [('read', 2, 0), ('wait', 1, 0), ('wait', 0, 1)], True)
"""
WINDOWS = """
>>> from ringreads.windows import jam, shows_jam, shows_ticks, window_ticks
>>> window_ticks(4, [0], [(1, 0, 3), (1, 0, 8)]), window_ticks(4, [0], [(1, 0, 3), (1, 0, 4)]), jam(4, [0, 0], [(1, 0, 3), (1, 0, 4)])
([1, 5], None, None)
>>> [shows_jam(4, [0], [(1, 0, 3), (1, 0, 4)], value) for value in [(1, 0, 4), (1, 0, 3), (1, 1, 4)]], shows_ticks(4, [0, 0], [(1, 0, 3), (1, 0, 4)], [1, 1])
([True, False, False], True)
"""
SMALL = """
>>> from ringreads.small import hindsight_ticks, lap_table, most_kept, trip_table, whole_ticks
>>> lap_table(4, three), trip_table(4, three, 0), most_kept(2, apart, 2), most_kept(4, three, 1), whole_ticks(4, three, [0, 2]), hindsight_ticks(4, 0, late)
([(2, 1), (3, 1)], [(7, 2), (10, 2), (11, 2)], [0], [0, 2], 4, 7)
"""
DRUMS = """
>>> from ringreads.drums import BudgetDrum, CountingDrum, Drum, ListedDrum
>>> drum = Drum(4, 0)
>>> [drum.add(0, 2), drum.add(1, 2), drum.waiting, drum.go(1), drum.reading, drum.add(2, 1), drum.go(4), drum.done, drum.mark]
[0, 1, [0, 1], [], 0, 2, [0, 2], [0, 2], 1]
>>> [drum.go(3), drum.tick, drum.begin_of(1), drum.undo(), drum.waiting, drum.described(), len(drum), drum == drum.twin()]
[[1], 8, 5, None, [1], ['tick 5', 'waiting 1', 'done 2'], 3, True]
>>> listed, counting = ListedDrum(4, 0), CountingDrum(4, 0)
>>> [listed.add(1, 1), listed.add(0, 1), listed.go(4), listed.begin_of(1), counting.add(1, 2), counting.go(5), counting.idle, counting.described()[3]]
[0, 1, [0], None, 0, [0], 3, 'idle 3']
>>> short = BudgetDrum(4, 0, 1)
>>> short.add(0, 1)
0
>>> short.add(0, 1)
raises Refused(count=1)
"""
TEXTS = """
>>> from ringreads.texts import format_numbers, format_records, parse_records, parse_trip
>>> [format_records(4, three), format_numbers([0, 2, 1]), format_numbers([]), parse_records(4, "0+2 1+2 2+1") == three, parse_trip(4, three, "1 0 2")]
['0+2 1+2 2+1', '0 2 1', '', True, [1, 0, 2]]
>>> parse_records(4, "0+2 4+1")
raises InvalidText(word=1)
>>> from ringreads.texts import parse_trip
>>> parse_trip(4, three, "0 2")
raises InvalidText(word=2)
"""
CONSOLE = """
>>> from ringreads.console import Console
>>> console = Console()
>>> [console.execute(command) for command in ["rounds", "ring 4", "records 0+2 1+2 2+1", "rounds", "lap", "laps", "parts", "ticks", "trip", "trips"]]
['1', 'ok', 'ok', '2', '0 2 1', '1', '1', '7', '0 2 1', '2']
>>> [console.execute(command) for command in ["rule listed", "late listed", "late nearest", "mark 3", "gap", "add 3+3", "pieces 0 2"]]
['0 1 2', '4', '0', 'ok', '2', '1', '4']
>>> console.execute("records 0+2 4+1")
raises InvalidRecords(index=1)
"""


def steps(text):
    """The commands of an example, each with the line behind it, or with None if that is a command too."""
    lines = [line for line in text.split("\n") if line] + [">>> "]
    for line, after in zip(lines, lines[1:]):
        if line.startswith(">>> "):
            yield line[4:], None if after.startswith(">>> ") else after


def told(error):
    """An error as the document tells it."""
    fields = ", ".join(f"{name}={value!r}" for name, value in vars(error).items())
    return f"raises {type(error).__name__}({fields})" if fields else f"raises {type(error).__name__}"


class ExamplesTest(unittest.TestCase):

    def run_example(self, text):
        names = {}
        checked = 0
        for command, expected in steps(RECORDS + text):
            if expected is None:
                exec(command, names)
                continue
            try:
                found = repr(eval(command, names))
            except errors.RingError as error:
                found = told(error)
            self.assertEqual(found, expected, command)
            checked += 1
        return checked

    def test_rings(self):
        self.assertEqual(self.run_example(RINGS), 3)

    def test_orders(self):
        self.assertEqual(self.run_example(ORDERS), 4)

    def test_rounds(self):
        self.assertEqual(self.run_example(ROUNDS), 3)

    def test_counting(self):
        self.assertEqual(self.run_example(COUNTING), 2)

    def test_trips(self):
        self.assertEqual(self.run_example(TRIPS), 2)

    def test_changes(self):
        self.assertEqual(self.run_example(CHANGES), 2)

    def test_rules(self):
        self.assertEqual(self.run_example(RULES), 2)

    def test_heads(self):
        self.assertEqual(self.run_example(HEADS), 3)

    def test_arrivals(self):
        self.assertEqual(self.run_example(ARRIVALS), 2)

    def test_layouts(self):
        self.assertEqual(self.run_example(LAYOUTS), 2)

    def test_far(self):
        self.assertEqual(self.run_example(FAR), 1)

    def test_windows(self):
        self.assertEqual(self.run_example(WINDOWS), 2)

    def test_small(self):
        self.assertEqual(self.run_example(SMALL), 1)

    def test_drums(self):
        self.assertEqual(self.run_example(DRUMS), 5)

    def test_texts(self):
        self.assertEqual(self.run_example(TEXTS), 3)

    def test_console(self):
        self.assertEqual(self.run_example(CONSOLE), 3)


if __name__ == "__main__":
    unittest.main()
