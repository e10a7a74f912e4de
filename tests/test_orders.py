"""Points [5] and [14]: laps and trips."""

import unittest
from itertools import permutations, product

from ringreads.orders import is_lap, is_trip, lap_rounds, lap_waits, mirrored_lap, trip_begins, trip_ticks
from ringreads.rings import mirrored
from tests.support import THREE, wrong_lap, wrong_trip
from tests.walks import LONGEST, MOST, laps_of, read, small_rings


class IsOrderTest(unittest.TestCase):

    def test_every_list_of_three_small_numbers(self):
        for value in product(range(-1, 4), repeat=3):
            trip = sorted(value) == [0, 1, 2]
            self.assertIs(is_trip(4, THREE, list(value)), trip, value)
            self.assertIs(is_lap(4, THREE, list(value)), trip and value[0] == 0, value)

    def test_any_other_value_is_no_trip(self):
        for value, _, _ in wrong_trip():
            self.assertIs(is_trip(4, THREE, value), False, value)
            self.assertIs(is_lap(4, THREE, value), False, value)

    def test_any_other_value_is_no_lap(self):
        for value, _, _ in wrong_lap():
            self.assertIs(is_lap(4, THREE, value), False, value)

    def test_one_record(self):
        for value, expected in [([0], True), ([1], False), ([-1], False), ([False], False), ([], False), ([0, 0], False),
                                ([0, 1], False), ([None], False), (0, False), ((0,), False), ("0", False)]:
            self.assertIs(is_lap(1, [(0, 1)], value), expected, value)
            self.assertIs(is_trip(1, [(0, 1)], value), expected, value)

    def test_bools_are_no_indices(self):
        for value in ([0, True], [False, 1], [False, True]):
            self.assertIs(is_lap(2, [(0, 1)] * 2, value), False, value)
            self.assertIs(is_trip(2, [(0, 1)] * 2, value), False, value)

    def test_thirty_records(self):
        records = [(7, LONGEST)] * 30
        self.assertIs(is_lap(MOST, records, list(range(30))), True)
        self.assertIs(is_trip(MOST, records, list(range(30))), True)
        self.assertIs(is_lap(MOST, records, list(range(29, -1, -1))), False)
        self.assertIs(is_trip(MOST, records, list(range(29, -1, -1))), True)
        self.assertIs(is_trip(MOST, records, [*range(29), 28]), False)
        self.assertIs(is_trip(MOST, records, list(range(29))), False)
        self.assertIs(is_trip(MOST, records, list(range(31))), False)
        self.assertIs(is_trip(MOST, records, list(range(1, 31))), False)


class LapTest(unittest.TestCase):

    def test_small_rings_tick_by_tick(self):
        for marks, records in small_rings():
            for order in laps_of(records):
                # Read from the begin of the record 0 on until this record is begun again.
                begins, _, _ = read(marks, records, records[0][0], order + [0])
                ends = [begin + records[index][1] for begin, index in zip(begins, order)]
                waits = [begin - end for begin, end in zip(begins[1:], ends)]
                self.assertEqual(lap_waits(marks, records, order), waits)
                self.assertEqual(lap_rounds(marks, records, order) * marks, begins[-1])

    def test_waits_are_in_the_sequence_of_the_lap(self):
        records = [(0, 1), (4, 1), (2, 1)]
        self.assertEqual(lap_waits(10, records, [0, 1, 2]), [3, 7, 7])
        self.assertEqual(lap_waits(10, records, [0, 2, 1]), [1, 1, 5])
        self.assertEqual(lap_rounds(10, records, [0, 1, 2]), 2)
        self.assertEqual(lap_rounds(10, records, [0, 2, 1]), 1)

    def test_one_record_waits_for_itself(self):
        self.assertEqual(lap_waits(4, [(1, 1)], [0]), [3])
        self.assertEqual(lap_waits(4, [(1, 4)], [0]), [0])
        self.assertEqual(lap_waits(4, [(1, 5)], [0]), [3])
        self.assertEqual([lap_rounds(4, [(1, length)], [0]) for length in (1, 4, 5, 8)], [1, 1, 2, 2])

    def test_a_ring_of_one_mark(self):
        records = [(0, 3), (0, 4), (0, LONGEST)]
        self.assertEqual(lap_waits(1, records, [0, 2, 1]), [0, 0, 0])
        self.assertEqual(lap_rounds(1, records, [0, 2, 1]), LONGEST + 7)

    def test_the_greatest_ring(self):
        records = [(MOST - 1, 2), (0, LONGEST), (1, 1)]
        self.assertEqual(lap_waits(MOST, records, [0, 1, 2]), [MOST - 1, 1, MOST - 3])
        self.assertEqual(lap_waits(MOST, records, [0, 2, 1]), [0, MOST - 2, MOST - 1])
        self.assertEqual(lap_rounds(MOST, records, [0, 1, 2]), 12)
        self.assertEqual(lap_rounds(MOST, records, [0, 2, 1]), 12)

    def test_thirty_records(self):
        records = [(index, 1) for index in range(30)]
        self.assertEqual(lap_waits(30, records, list(range(30))), [0] * 30)
        self.assertEqual(lap_rounds(30, records, list(range(30))), 1)
        backwards = [0, *range(29, 0, -1)]
        self.assertEqual(lap_waits(30, records, backwards), [28] * 30)
        self.assertEqual(lap_rounds(30, records, backwards), 29)
        self.assertEqual(lap_rounds(MOST, [(7, LONGEST)] * 30, backwards), 300)


class MirroredLapTest(unittest.TestCase):

    def test_the_others_come_from_the_last_one_to_the_first_one(self):
        self.assertEqual(mirrored_lap(4, [(0, 1)], [0]), [0])
        self.assertEqual(mirrored_lap(4, [(0, 1)] * 2, [0, 1]), [0, 1])
        self.assertEqual(mirrored_lap(4, [(0, 1)] * 4, [0, 2, 1, 3]), [0, 3, 1, 2])
        self.assertEqual(mirrored_lap(MOST, [(0, LONGEST)] * 30, list(range(30))), [0, *range(29, 0, -1)])

    def test_it_has_as_many_rounds_and_the_same_waits_backwards(self):
        for marks, records in small_rings():
            for order in laps_of(records):
                found = mirrored_lap(marks, records, order)
                other = mirrored(marks, records)
                self.assertTrue(is_lap(marks, other, found))
                self.assertEqual(lap_rounds(marks, other, found), lap_rounds(marks, records, order))
                self.assertEqual(lap_waits(marks, other, found), lap_waits(marks, records, order)[::-1])
                self.assertEqual(mirrored_lap(marks, other, found), order)


class TripTest(unittest.TestCase):

    def test_small_rings_tick_by_tick(self):
        for marks, records in small_rings():
            for mark in range(marks):
                for order in permutations(range(len(records))):
                    begins, ticks, _ = read(marks, records, mark, order)
                    self.assertEqual(trip_begins(marks, records, mark, list(order)), begins)
                    self.assertEqual(trip_ticks(marks, records, mark, list(order)), ticks)

    def test_a_record_at_the_mark_is_begun_at_once(self):
        self.assertEqual(trip_begins(4, [(3, 2)], 3, [0]), [0])
        self.assertEqual(trip_begins(4, [(3, 2)], 0, [0]), [3])
        self.assertEqual(trip_ticks(4, [(3, 2)], 3, [0]), 2)
        self.assertEqual(trip_ticks(4, [(3, 2)], 0, [0]), 5)

    def test_begins_are_in_the_sequence_of_the_trip(self):
        records = [(0, 1), (4, 1), (2, 1)]
        self.assertEqual(trip_begins(10, records, 1, [2, 0, 1]), [1, 9, 13])
        self.assertEqual(trip_ticks(10, records, 1, [2, 0, 1]), 14)
        self.assertEqual(trip_begins(10, records, 1, [1, 2, 0]), [3, 11, 19])

    def test_a_ring_of_one_mark(self):
        self.assertEqual(trip_begins(1, [(0, 3), (0, LONGEST)], 0, [1, 0]), [0, LONGEST])
        self.assertEqual(trip_ticks(1, [(0, 3), (0, LONGEST)], 0, [1, 0]), LONGEST + 3)

    def test_the_greatest_ring(self):
        records = [(MOST - 1, LONGEST), (0, 1)]
        self.assertEqual(trip_begins(MOST, records, 1, [0, 1]), [MOST - 2, LONGEST + MOST - 1])
        self.assertEqual(trip_ticks(MOST, records, 1, [0, 1]), LONGEST + MOST)
        self.assertEqual(trip_begins(MOST, records, MOST - 1, [1, 0]), [1, MOST])
        self.assertEqual(trip_ticks(MOST, records, MOST - 1, [1, 0]), LONGEST + MOST)

    def test_thirty_records(self):
        records = [(0, LONGEST)] * 30
        order = list(range(29, -1, -1))
        self.assertEqual(trip_begins(MOST, records, 0, order), [at * LONGEST for at in range(30)])
        self.assertEqual(trip_ticks(MOST, records, 0, order), 30 * LONGEST)


if __name__ == "__main__":
    unittest.main()
