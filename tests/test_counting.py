"""Points [7] and [16]: how many laps have the fewest rounds, each by its index, and which records follow."""

import unittest
from itertools import chain, permutations
from math import factorial

from ringreads.counting import follow_count, lap_count, lap_index, may_follow, must_follow, nth_lap
from ringreads.rings import mirrored, moved, multiplied
from ringreads.rounds import least_lap
from tests.support import APART, THREE, RingTest
from tests.walks import LONGEST, MOST, fewest_laps, great_rings, laps_of, mixed_rings, rounds_of, small_rings


def all_rings():
    """Small rings, and mixed ones with up to six records."""
    return chain(small_rings(), mixed_rings(200, 4, 5), mixed_rings(120, 5, 6), mixed_rings(25, 6, 7))


def pairs_of(records):
    """All tuples of two unlike indices, ascending."""
    return list(permutations(range(len(records)), 2))


def follow_counts(records, laps):
    """In how many of the laps one record is next behind another one, for all pairs."""
    counts = dict.fromkeys(pairs_of(records), 0)
    for lap in laps:
        for pair in zip(lap, lap[1:] + lap[:1]):
            if pair in counts:
                counts[pair] += 1
    return counts


class AllLapsTest(RingTest):

    def test_the_number_of_the_laps(self):
        for marks, records in all_rings():
            self.assertEqual(lap_count(marks, records), len(fewest_laps(marks, records)[1]), (marks, records))

    def test_each_lap_by_its_index_and_back(self):
        for marks, records in all_rings():
            _, laps = fewest_laps(marks, records)
            self.assertEqual([nth_lap(marks, records, index) for index in range(len(laps))], laps, (marks, records))
            self.assertEqual([lap_index(marks, records, lap) for lap in laps], list(range(len(laps))))
            self.expect("InvalidNumber", {}, nth_lap, marks, records, len(laps))

    def test_a_lap_with_more_rounds_has_no_index(self):
        tried = 0
        for marks, records in mixed_rings(60, 4, 8):
            fewest, _ = fewest_laps(marks, records)
            for lap in laps_of(records):
                if rounds_of(marks, records, lap) > fewest:
                    self.expect("Impossible", {}, lap_index, marks, records, lap)
                    tried += 1
        self.assertGreater(tried, 20)

    def test_how_many_laps_have_one_record_next_behind_another_one(self):
        for marks, records in all_rings():
            counts = follow_counts(records, fewest_laps(marks, records)[1])
            for (first, second), count in counts.items():
                self.assertEqual(follow_count(marks, records, first, second), count, (marks, records, first, second))

    def test_pairs_that_may_and_must_follow(self):
        for marks, records in all_rings():
            _, laps = fewest_laps(marks, records)
            counts = follow_counts(records, laps)
            self.assertEqual(may_follow(marks, records), [pair for pair in pairs_of(records) if counts[pair]])
            self.assertEqual(must_follow(marks, records),
                             [pair for pair in pairs_of(records) if counts[pair] == len(laps)], (marks, records))

    def test_seven_records(self):
        for marks, records in mixed_rings(5, 7, 9):
            _, laps = fewest_laps(marks, records)
            self.assertEqual(lap_count(marks, records), len(laps))
            for index in range(0, len(laps), 1 + len(laps) // 7):
                self.assertEqual(nth_lap(marks, records, index), laps[index])
                self.assertEqual(lap_index(marks, records, laps[index]), index)


class CountTest(RingTest):

    def test_one_record(self):
        for marks, record in [(1, (0, 1)), (1, (0, LONGEST)), (4, (3, 1)), (4, (3, 4)), (4, (3, 9)), (MOST, (0, MOST))]:
            self.assertEqual(lap_count(marks, [record]), 1)
            self.assertEqual(nth_lap(marks, [record], 0), [0])
            self.assertEqual(lap_index(marks, [record], [0]), 0)
            self.assertEqual(may_follow(marks, [record]), [])
            self.assertEqual(must_follow(marks, [record]), [])
            self.expect("InvalidNumber", {}, nth_lap, marks, [record], 1)
            self.expect("Impossible", {}, follow_count, marks, [record], 0, 0)
            self.expect("InvalidNumber", {}, follow_count, marks, [record], 0, 1)
            self.expect("InvalidNumber", {}, follow_count, marks, [record], 1, 0)

    def test_two_records(self):
        for marks, records in ((4, [(0, 2), (2, 2)]), (2, APART), (MOST, [(5, LONGEST)] * 2), (1, [(0, 1)] * 2)):
            self.assertEqual(lap_count(marks, records), 1)
            self.assertEqual(may_follow(marks, records), [(0, 1), (1, 0)])
            self.assertEqual(must_follow(marks, records), [(0, 1), (1, 0)])
            self.assertEqual([follow_count(marks, records, 0, 1), follow_count(marks, records, 1, 0)], [1, 1])

    def test_thirty_records_of_which_all_laps_are_alike(self):
        for marks, record in [(1, (0, 1)), (2, (1, 1)), (MOST, (7, 1)), (MOST, (7, MOST)), (MOST, (7, LONGEST - 1))]:
            records = [record] * 30
            self.assertEqual(lap_count(marks, records), factorial(29))
            self.assertEqual(follow_count(marks, records, 29, 0), factorial(28))
            self.assertEqual(follow_count(marks, records, 3, 17), factorial(28))
            self.assertEqual(may_follow(marks, records), pairs_of(records))
            self.assertEqual(must_follow(marks, records), [])

    def test_thirty_records_in_a_row(self):
        for marks, step in ((30, 1), (MOST, MOST // 30)):
            records = [(index * step, step) for index in range(30)]
            self.assertEqual(lap_count(marks, records), 1)
            self.assertEqual(must_follow(marks, records), sorted([(index, (index + 1) % 30) for index in range(30)]))
            self.assertEqual(may_follow(marks, records), must_follow(marks, records))
            self.assertEqual([follow_count(marks, records, 29, 0), follow_count(marks, records, 0, 2)], [1, 0])

    def test_idle_passes_are_not_told_apart(self):
        # Each record (0, 1) is followed by one of the two (2, 1), with two idle passes on each stretch between.
        records = [(0, 1), (2, 1), (0, 1), (2, 1)]
        self.assertEqual(lap_count(4, records), len(fewest_laps(4, records)[1]))
        pairs = [(index % 2 * 2, 1) for index in range(30)]
        self.assertEqual(lap_count(4, pairs), factorial(14) * factorial(15))
        # Thirty records of which each is read in a round of its own, or two and two in one.
        self.assertEqual(lap_count(4, [(0, 3)] * 29 + [(3, 1)]), factorial(29))

    def test_each_lap_reads_one_record_next_behind_another_one(self):
        for marks, records in great_rings():
            count = lap_count(marks, records)
            for first in (0, 11, 29):
                counts = [follow_count(marks, records, first, second) for second in range(30) if second != first]
                self.assertEqual(sum(counts), count)
                counts = [follow_count(marks, records, second, first) for second in range(30) if second != first]
                self.assertEqual(sum(counts), count)

    def test_pairs_of_great_rings(self):
        for marks, records in great_rings():
            count = lap_count(marks, records)
            may, must = may_follow(marks, records), must_follow(marks, records)
            for first, second in pairs_of(records)[::17]:
                found = follow_count(marks, records, first, second)
                self.assertEqual((first, second) in may, found > 0)
                self.assertEqual((first, second) in must, found == count)
            self.assertEqual(may, sorted(set(may)))
            self.assertEqual(must, sorted(set(must)))
            lap = least_lap(marks, records)
            self.assertLessEqual(set(zip(lap, lap[1:] + lap[:1])), set(may))

    def test_numbers_of_other_rings_of_the_same_kind(self):
        for marks, records in great_rings():
            count = lap_count(marks, records)
            self.assertGreaterEqual(count, 1)
            self.assertEqual(lap_count(marks, moved(marks, records, 4321)), count)
            self.assertEqual(lap_count(marks, mirrored(marks, records)), count)
            self.assertEqual(lap_count(marks, records[::-1]), count)
        for marks, records in mixed_rings(20, 5, 10):
            large = multiplied(marks, records, 10 ** 28)
            self.assertEqual(lap_count(marks * 10 ** 28, large), lap_count(marks, records))

    def test_numbers_beyond_all_machine_numbers(self):
        self.assertEqual(lap_count(MOST, [(7, 1)] * 30), 8841761993739701954543616000000)
        # Whole rounds at two marks, and a round more with an idle pass from each mark to the other one.
        records = [(index % 2, 2) for index in range(30)]
        self.assertEqual(lap_count(2, records), factorial(15) * factorial(14) * 15)


class IndexTest(RingTest):

    def test_ten_records(self):
        for marks, records in ((MOST, [(7, LONGEST)] * 10), (1, [(0, index + 1) for index in range(10)])):
            last = factorial(9) - 1
            self.assertEqual(nth_lap(marks, records, 0), list(range(10)))
            self.assertEqual(nth_lap(marks, records, last), [0, *range(9, 0, -1)])
            self.assertEqual(nth_lap(marks, records, factorial(8)), [0, 2, 1, *range(3, 10)])
            self.assertEqual(lap_index(marks, records, [0, *range(9, 0, -1)]), last)
            self.assertEqual(lap_index(marks, records, [0, 2, 1, *range(3, 10)]), factorial(8))
            self.expect("InvalidNumber", {}, nth_lap, marks, records, last + 1)
            self.expect("InvalidNumber", {}, nth_lap, marks, records, 10 ** 100 - 1)

    def test_ten_records_of_many_kinds(self):
        for marks, records in list(great_rings()) + list(mixed_rings(10, 10, 11)):
            records = records[:10]
            count = lap_count(marks, records)
            found = []
            for index in sorted({0, count // 3, count // 2, count - 1}):
                lap = nth_lap(marks, records, index)
                self.assertEqual(lap_index(marks, records, lap), index)
                found.append(lap)
            self.assertEqual(found, sorted(found))
            self.assertEqual(found[0], least_lap(marks, records))
            self.expect("InvalidNumber", {}, nth_lap, marks, records, count)

    def test_eleven_records_are_too_many(self):
        for many in (11, 12, 30):
            records = [(index % 4, 1) for index in range(many)]
            lap = list(range(many))
            self.expect("TooLarge", {"limit": 10}, nth_lap, 4, records, 0)
            self.expect("TooLarge", {"limit": 10}, lap_index, 4, records, lap)
            # A wrong parameter comes ahead of it, an index that is too great and a lap with more rounds behind it.
            self.expect("TooLarge", {"limit": 10}, nth_lap, 4, records, 10 ** 100 - 1)
            self.expect("TooLarge", {"limit": 10}, lap_index, 4, records, [0, *range(many - 1, 0, -1)])
            for index in (-1, True, None, "0", [0]):
                self.expect("InvalidNumber", {}, nth_lap, 4, records, index)
            self.expect("InvalidOrder", {"index": 0}, lap_index, 4, records, lap[::-1])
            self.expect("InvalidOrder", {"index": None}, lap_index, 4, records, lap[:-1])
            self.expect("InvalidOrder", {"index": many - 1}, lap_index, 4, records, lap[:-1] + [True])
            self.expect("InvalidRecords", {"index": many - 1}, nth_lap, 4, records[:-1] + [(4, 1)], 0)

    def test_an_index_that_is_just_too_great(self):
        self.assertEqual(nth_lap(4, THREE, 0), [0, 2, 1])
        self.expect("InvalidNumber", {}, nth_lap, 4, THREE, 1)
        self.assertEqual(nth_lap(1, [(0, 1)] * 4, 5), [0, 3, 2, 1])
        self.expect("InvalidNumber", {}, nth_lap, 1, [(0, 1)] * 4, 6)

    def test_a_lap_with_more_rounds(self):
        self.expect("Impossible", {}, lap_index, 4, THREE, [0, 1, 2])
        self.expect("InvalidOrder", {"index": 0}, lap_index, 4, THREE, [1, 0, 2])


class FollowTest(RingTest):

    def test_first_and_second(self):
        self.assertEqual([follow_count(4, THREE, first, second) for first, second in pairs_of(THREE)],
                         [0, 1, 1, 0, 0, 1])
        for index in range(3):
            self.expect("Impossible", {}, follow_count, 4, THREE, index, index)
        for index in (3, 4, -1, 10 ** 99, -10 ** 99, True, False, None, "1", [1]):
            self.expect("InvalidNumber", {}, follow_count, 4, THREE, index, index)
            self.expect("InvalidNumber", {}, follow_count, 4, THREE, index, 0)
            self.expect("InvalidNumber", {}, follow_count, 4, THREE, 1, index)
        self.expect("Impossible", {}, follow_count, 1, [(0, 1)] * 30, 29, 29)
        self.expect("InvalidNumber", {}, follow_count, 1, [(0, 1)] * 30, 30, 30)


if __name__ == "__main__":
    unittest.main()
