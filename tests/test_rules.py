"""Points [9] and [19]: the trips that simple rules make."""

import unittest
from itertools import chain

from ringreads.orders import is_trip, trip_ticks
from ringreads.rules import rule_ticks, rule_trip
from ringreads.trips import fewest_ticks
from tests.support import THREE, RingTest
from tests.walks import LONGEST, MOST, great_rings, mixed_rings, read, small_rings

RULES = ("nearest", "longest", "shortest", "listed", "brief")


def all_rings():
    """Small rings, and mixed ones of up to nine records."""
    rings = [mixed_rings(60, many, 20 + many) for many in range(4, 10)]
    return chain(list(small_rings())[::3], *rings)


def chosen(records, here, rule):
    """Which of the unread records that begin here a rule takes."""
    best = here[0]
    for index in here:
        length = records[index][1]
        if rule == "longest" and length > records[best][1] or rule == "shortest" and length < records[best][1]:
            best = index
    return best


def trip_by_ticks(marks, records, mark, rule):
    """The trip of a rule that goes on to the next begin, tick by tick, and its ticks."""
    unread = list(range(len(records)))
    trip = []
    tick = 0
    while unread:
        here = [index for index in unread if records[index][0] == mark]
        ticks = 1
        if here:
            trip.append(chosen(records, here, rule))
            unread.remove(trip[-1])
            ticks = records[trip[-1]][1]
        for _ in range(ticks):
            mark, tick = (mark + 1) % marks, tick + 1
    return trip, tick


class RulesTest(RingTest):

    def test_rules_that_go_on_to_the_next_begin_tick_by_tick(self):
        for marks, records in all_rings():
            for mark in range(marks):
                for rule in RULES[:3]:
                    trip, ticks = trip_by_ticks(marks, records, mark, rule)
                    self.assertEqual(rule_trip(marks, records, mark, rule), trip, (marks, records, mark, rule))
                    self.assertEqual(rule_ticks(marks, records, mark, rule), ticks)

    def test_rules_by_indices_and_by_lengths(self):
        for marks, records in all_rings():
            indices = list(range(len(records)))
            brief = []
            for length in range(1, 1 + max(length for _, length in records)):
                brief += [index for index in indices if records[index][1] == length]
            for mark in range(marks):
                self.assertEqual(rule_trip(marks, records, mark, "listed"), indices)
                self.assertEqual(rule_trip(marks, records, mark, "brief"), brief)
                self.assertEqual(rule_ticks(marks, records, mark, "listed"), read(marks, records, mark, indices)[1])
                self.assertEqual(rule_ticks(marks, records, mark, "brief"), read(marks, records, mark, brief)[1])

    def test_rules_end_less_than_their_last_record_too_late(self):
        for marks, records in chain(all_rings(), great_rings()):
            for rule in RULES[:3]:
                last = rule_trip(marks, records, 0, rule)[-1]
                late = rule_ticks(marks, records, 0, rule) - fewest_ticks(marks, records, 0)
                self.assertTrue(0 <= late < records[last][1], (marks, records, rule))

    def test_one_record(self):
        for rule in RULES:
            self.assertEqual(rule_trip(4, [(1, 2)], 3, rule), [0])
            self.assertEqual(rule_ticks(4, [(1, 2)], 3, rule), 4)
            self.assertEqual(rule_ticks(4, [(1, 2)], 1, rule), 2)
            self.assertEqual(rule_ticks(MOST, [(0, LONGEST)], 1, rule), LONGEST + MOST - 1)
            self.assertEqual(rule_ticks(1, [(0, LONGEST)], 0, rule), LONGEST)

    def test_several_records_with_one_begin(self):
        records = [(0, 2), (1, 4), (0, 4), (0, 2), (0, 4), (1, 4), (0, 8)]
        self.assertEqual(rule_trip(4, records, 0, "nearest"), [0, 2, 3, 4, 6, 1, 5])
        self.assertEqual(rule_trip(4, records, 0, "longest"), [6, 2, 4, 0, 3, 1, 5])
        self.assertEqual(rule_trip(4, records, 0, "shortest"), [0, 3, 2, 4, 6, 1, 5])
        self.assertEqual(rule_trip(4, records, 0, "brief"), [0, 3, 1, 2, 4, 5, 6])

    def test_equally_long_records_are_taken_by_their_indices(self):
        for marks in (1, 2, MOST):
            for rule in RULES:
                self.assertEqual(rule_trip(marks, [(marks - 1, 3)] * 30, 0, rule), list(range(30)))

    def test_a_ring_of_one_mark(self):
        records = [(0, 3), (0, LONGEST), (0, 1), (0, 3)]
        trips = [rule_trip(1, records, 0, rule) for rule in RULES]
        self.assertEqual(trips, [[0, 1, 2, 3], [1, 0, 3, 2], [2, 0, 3, 1], [0, 1, 2, 3], [2, 0, 3, 1]])
        self.assertEqual([rule_ticks(1, records, 0, rule) for rule in RULES], [LONGEST + 7] * 5)

    def test_the_record_at_the_end_comes_ahead_of_one_further_on(self):
        self.assertEqual(rule_trip(MOST, [(MOST - 1, 1), (0, MOST - 1), (1, 1)], 0, "nearest"), [1, 0, 2])
        self.assertEqual(rule_trip(MOST, [(MOST - 1, 1), (0, MOST), (0, 1), (0, MOST)], 0, "longest"), [1, 3, 2, 0])

    def test_great_rings(self):
        for marks, records in great_rings():
            for rule in RULES:
                for mark in {0, marks - 1}:
                    trip = rule_trip(marks, records, mark, rule)
                    self.assertTrue(is_trip(marks, records, trip))
                    self.assertEqual(rule_ticks(marks, records, mark, rule), trip_ticks(marks, records, mark, trip))

    def test_a_wrong_rule_comes_behind_a_wrong_mark(self):
        for function in (rule_trip, rule_ticks):
            self.expect("InvalidMark", {}, function, 4, THREE, 4, "other")
            self.expect("InvalidRecords", {"index": None}, function, 4, [], 4, "other")
            for rule in ("other", "", "Nearest", b"nearest", ["nearest"], None, True, 0, RULES, list(RULES), {"brief": 1}):
                self.expect("InvalidRule", {}, function, 4, THREE, 3, rule)


if __name__ == "__main__":
    unittest.main()
