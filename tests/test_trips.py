"""Points [8] and [17]: the fewest ticks of trips from a mark, the least trip, how many there are, the best begins."""

import unittest
from itertools import chain
from math import factorial

from ringreads.orders import is_trip, trip_ticks
from ringreads.rings import ends_of, moved, multiplied
from ringreads.rounds import fewest_rounds
from ringreads.trips import best_begins, fewest_ticks, least_trip, trip_bounds, trip_count
from tests.support import THREE
from tests.walks import LONGEST, MOST, fewest_laps, fewest_trips, great_rings, mixed_rings, small_rings, walked


def all_rings():
    """Small rings, and mixed ones with up to five records."""
    return chain(list(small_rings())[::3], mixed_rings(60, 4, 12), mixed_rings(25, 5, 13))


def bounds_by_laps(marks, records, mark):
    """The bounds by their definition, with all laps of the records and of the way back."""
    found = []
    for end in sorted({walked(marks, record)[1] for record in records}):
        back = 0
        while (end + back) % marks != mark:
            back += 1
        rounds, _ = fewest_laps(marks, records + ([(end, back)] if back else []))
        found.append((end, rounds, rounds * marks - back))
    return found


class AllTripsTest(unittest.TestCase):

    def test_the_fewest_ticks_the_least_trip_and_their_number(self):
        for marks, records in all_rings():
            for mark in range(marks):
                fewest, trips = fewest_trips(marks, records, mark)
                self.assertEqual(fewest_ticks(marks, records, mark), fewest, (marks, records, mark))
                self.assertEqual(least_trip(marks, records, mark), trips[0], (marks, records, mark))
                self.assertEqual(trip_count(marks, records, mark), len(trips), (marks, records, mark))

    def test_six_records(self):
        for marks, records in mixed_rings(8, 6, 14):
            fewest, trips = fewest_trips(marks, records, 0)
            self.assertEqual(fewest_ticks(marks, records, 0), fewest)
            self.assertEqual(least_trip(marks, records, 0), trips[0])
            self.assertEqual(trip_count(marks, records, 0), len(trips))

    def test_bounds_by_their_definition(self):
        for marks, records in list(all_rings())[::2]:
            for mark in range(marks):
                self.assertEqual(trip_bounds(marks, records, mark), bounds_by_laps(marks, records, mark))

    def test_the_fewest_ticks_are_the_least_bound(self):
        for marks, records in all_rings():
            for mark in range(marks):
                found = trip_bounds(marks, records, mark)
                self.assertEqual(min(ticks for _, _, ticks in found), fewest_ticks(marks, records, mark))

    def test_best_begins(self):
        for marks, records in all_rings():
            ticks = {mark: fewest_trips(marks, records, mark)[0] for mark in range(marks)}
            begins = sorted({begin for begin, _ in records})
            least = min(ticks[begin] for begin in begins)
            self.assertEqual(best_begins(marks, records), [begin for begin in begins if ticks[begin] == least])
            # No other mark is better than they are.
            self.assertEqual(min(ticks.values()), least)


class TripTest(unittest.TestCase):

    def test_one_record(self):
        for marks, record, mark, ticks in [
            (1, (0, 1), 0, 1), (1, (0, LONGEST), 0, LONGEST), (4, (1, 2), 1, 2), (4, (1, 2), 3, 4), (4, (1, 2), 0, 3),
            (4, (1, 4), 1, 4), (4, (1, 4), 2, 7), (4, (1, 9), 2, 12), (MOST, (0, 1), 1, MOST),
            (MOST, (MOST - 1, LONGEST), 0, LONGEST + MOST - 1), (MOST, (5, MOST), 5, MOST),
        ]:
            self.assertEqual(fewest_ticks(marks, [record], mark), ticks)
            self.assertEqual(least_trip(marks, [record], mark), [0])
            self.assertEqual(trip_count(marks, [record], mark), 1)
            self.assertEqual(best_begins(marks, [record]), [record[0]])
            end = (record[0] + record[1]) % marks
            self.assertEqual(trip_bounds(marks, [record], mark), [(end, -(-ticks // marks), ticks)])

    def test_trips_that_end_where_they_begin(self):
        # The last record is any of those that end at the mark.
        self.assertEqual(trip_count(2, [(0, 2)] * 3, 0), 6)
        self.assertEqual(trip_bounds(2, [(0, 2)] * 3, 0), [(0, 3, 6)])
        self.assertEqual(trip_count(MOST, [(7, LONGEST)] * 30, 7), factorial(30))
        self.assertEqual(trip_count(1, [(0, index + 1) for index in range(30)], 0), factorial(30))
        self.assertEqual(fewest_ticks(1, [(0, index + 1) for index in range(30)], 0), 465)
        self.assertEqual(trip_count(30, [(index, 1) for index in range(30)], 0), 1)
        self.assertEqual(fewest_ticks(30, [(index, 1) for index in range(30)], 0), 30)

    def test_trips_that_end_elsewhere(self):
        self.assertEqual(trip_bounds(4, THREE, 0), [(2, 3, 10), (3, 2, 7)])
        self.assertEqual(fewest_ticks(4, [(0, 1)] * 3, 0), 9)
        self.assertEqual(trip_count(4, [(0, 1)] * 3, 0), 6)
        self.assertEqual(fewest_ticks(4, [(0, 1)] * 3, 1), 12)
        self.assertEqual(trip_count(4, [(0, 1)] * 3, 1), 6)
        self.assertEqual(trip_count(MOST, [(7, 1)] * 30, 0), factorial(30))
        self.assertEqual(fewest_ticks(MOST, [(7, 1)] * 30, 0), 29 * MOST + 8)

    def test_all_begins_are_best(self):
        self.assertEqual(best_begins(30, [(-index % 30, 1) for index in range(30)]), list(range(30)))
        self.assertEqual(best_begins(4, [(3, 2), (1, 2), (3, 2), (1, 2)]), [1, 3])
        self.assertEqual(best_begins(MOST, [(MOST - 1, 1)] * 30), [MOST - 1])

    def test_great_rings(self):
        for marks, records in great_rings():
            for mark in {0, 7 % marks, marks - 1, records[0][0]}:
                bounds = trip_bounds(marks, records, mark)
                ticks = fewest_ticks(marks, records, mark)
                trip = least_trip(marks, records, mark)
                self.assertEqual([end for end, _, _ in bounds], sorted(set(ends_of(marks, records))))
                self.assertEqual(min(bound[2] for bound in bounds), ticks)
                for end, rounds, found in bounds:
                    self.assertEqual((found - rounds * marks + mark - end) % marks, 0)
                    self.assertLess(rounds * marks - found, marks)
                    self.assertGreaterEqual(rounds, fewest_rounds(marks, records))
                self.assertTrue(is_trip(marks, records, trip))
                self.assertEqual(trip_ticks(marks, records, mark, trip), ticks)
                self.assertGreaterEqual(trip_count(marks, records, mark), 1)
                self.assertEqual(least_trip(marks, moved(marks, records, 99), (mark + 99) % marks), trip)

    def test_numbers_of_trips_on_greater_rings(self):
        for marks, records in mixed_rings(20, 5, 15):
            large = multiplied(marks, records, 10 ** 28)
            for mark in range(marks):
                self.assertEqual(trip_count(marks * 10 ** 28, large, mark * 10 ** 28), trip_count(marks, records, mark))
                self.assertEqual(fewest_ticks(marks * 10 ** 28, large, mark * 10 ** 28),
                                 fewest_ticks(marks, records, mark) * 10 ** 28)

    def test_best_begins_of_great_rings(self):
        for marks, records in great_rings():
            found = best_begins(marks, records)
            ticks = {begin: fewest_ticks(marks, records, begin) for begin, _ in records}
            self.assertEqual(found, sorted(begin for begin in ticks if ticks[begin] == min(ticks.values())))


if __name__ == "__main__":
    unittest.main()
