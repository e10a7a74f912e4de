"""Points [9] and [18]: what a longer, a further, a missing and a cut record cost and save."""

import unittest
from itertools import chain

from ringreads.changes import added_rounds, cut_saves, gap_at, longest_length, saved_rounds
from ringreads.rounds import fewest_rounds
from tests.support import APART, THREE, RingTest
from tests.walks import LONGEST, MOST, fewest_laps, great_rings, mixed_rings, small_rings


def all_rings():
    """Small rings, and mixed ones of up to five records."""
    rings = chain(list(small_rings())[::5], mixed_rings(40, 4, 16), mixed_rings(8, 5, 17))
    # Lengths are tried one by one, so they stay short.
    return [(marks, records) for marks, records in rings if sum(length for _, length in records) < 5 * marks]


def fewest(marks, records):
    """The fewest rounds, by all laps, 0 without records."""
    return fewest_laps(marks, records)[0] if records else 0


def longest_by_trial(marks, others, begin, length):
    """The greatest length with which the fewest rounds are those with this length, length by length."""
    rounds = fewest(marks, others + ([(begin, length)] if length else []))
    # With a length above so many rounds no lap has so few.
    found = [more for more in range(length + 1, rounds * marks + 2)
             if fewest(marks, others + [(begin, more)]) == rounds]
    return max(found, default=length)


class SmallRingsTest(unittest.TestCase):

    def test_the_longest_length(self):
        for marks, records in all_rings():
            for index, (begin, length) in enumerate(records):
                others = records[:index] + records[index + 1:]
                self.assertEqual(longest_length(marks, records, index),
                                 longest_by_trial(marks, others, begin, length), (marks, records, index))

    def test_the_gap(self):
        for marks, records in [ring for ring in all_rings() if len(ring[1]) < 5]:
            for mark in range(marks):
                self.assertEqual(gap_at(marks, records, mark), longest_by_trial(marks, records, mark, 0),
                                 (marks, records, mark))

    def test_rounds_added_by_a_record(self):
        for marks, records in [ring for ring in all_rings() if len(ring[1]) < 5][::2]:
            for record in [(0, 1), (marks - 1, marks), (marks // 2, marks + 1), (marks - 1, 2), (0, 3 * marks)]:
                more = fewest(marks, records + [record]) - fewest(marks, records)
                self.assertEqual(added_rounds(marks, records, record), more)
                self.assertLessEqual(more, 1 + -(-record[1] // marks))

    def test_rounds_saved_without_a_record(self):
        for marks, records in all_rings():
            for index in range(len(records)):
                less = fewest(marks, records) - fewest(marks, records[:index] + records[index + 1:])
                self.assertEqual(saved_rounds(marks, records, index), less, (marks, records, index))
                self.assertGreaterEqual(less, 0)

    def test_rounds_saved_by_a_cut(self):
        saved = 0
        for marks, records in [ring for ring in all_rings() if len(ring[1]) < 5]:
            for index, (begin, length) in enumerate(records):
                for first in range(1, length):
                    pieces = [(begin, first), ((begin + first) % marks, length - first)]
                    less = fewest(marks, records) - fewest(marks, records[:index] + pieces + records[index + 1:])
                    self.assertEqual(cut_saves(marks, records, index, first), less, (marks, records, index, first))
                    self.assertIn(less, (0, 1))
                    saved += less
        self.assertGreater(saved, 20)


class LongestTest(RingTest):

    def test_one_record_is_as_long_as_its_rounds(self):
        for marks, record, longest in [
            (1, (0, 1), 1), (1, (0, 7), 7), (4, (3, 1), 4), (4, (3, 4), 4), (4, (3, 5), 8), (MOST, (5, 1), MOST),
            (MOST, (5, MOST), MOST), (MOST, (5, MOST + 1), 2 * MOST), (1, (0, LONGEST), LONGEST),
            (MOST, (MOST - 1, LONGEST), LONGEST), (MOST, (0, 9 * MOST + 1), LONGEST), (MOST, (0, LONGEST - 1), LONGEST),
        ]:
            self.assertEqual(longest_length(marks, [record], 0), longest)

    def test_no_length_is_above_the_greatest_one(self):
        # Eleven rounds would be longer.
        self.assertEqual(longest_length(MOST - 1, [(0, LONGEST - 1)], 0), LONGEST)
        self.assertEqual(longest_length(MOST - 1, [(0, 10 * (MOST - 1) + 1)], 0), LONGEST)
        self.assertEqual(longest_length(7, [(0, LONGEST)], 0), LONGEST)
        self.assertEqual(longest_length(7, [(0, LONGEST - 1), (3, 1)], 0),
                         longest_length(7, [(0, LONGEST), (3, 1)], 0))
        self.assertEqual(longest_length(MOST - 1, [(5, LONGEST), (0, 1)], 0), LONGEST)

    def test_thirty_records(self):
        self.assertEqual(longest_length(MOST, [(7, 1)] * 30, 29), MOST)
        self.assertEqual(longest_length(30, [(index, 1) for index in range(30)], 12), 1)
        # All records meet in the one idle pass that goes on from the end of the last one to its begin.
        self.assertEqual(longest_length(MOST, [(index, MOST) for index in range(30)], 29), 2 * MOST - 29)

    def test_great_rings(self):
        for marks, records in great_rings():
            rounds = fewest_rounds(marks, records)
            for index in (0, 13, 29):
                begin, length = records[index]
                longest = longest_length(marks, records, index)
                self.assertTrue(length <= longest <= LONGEST)
                changed = list(records)
                changed[index] = (begin, longest)
                self.assertEqual(fewest_rounds(marks, changed), rounds)
                if longest < LONGEST:
                    changed[index] = (begin, longest + 1)
                    self.assertGreater(fewest_rounds(marks, changed), rounds)

    def test_an_index_that_is_too_great(self):
        self.expect("InvalidNumber", {}, longest_length, 4, THREE, 3)
        self.expect("InvalidNumber", {}, longest_length, 4, [(0, 1)], 1)
        self.expect("InvalidNumber", {}, longest_length, 4, [(0, 1)] * 30, 30)
        self.assertEqual(longest_length(4, [(0, 1)] * 30, 29), 4)


class GapTest(unittest.TestCase):

    def test_gaps_of_many_kinds(self):
        self.assertEqual([gap_at(4, [(0, 4)], mark) for mark in range(4)], [0, 0, 0, 0])
        self.assertEqual([gap_at(4, [(0, 1)], mark) for mark in range(4)], [0, 3, 2, 1])
        self.assertEqual([gap_at(4, [(3, 1)], mark) for mark in range(4)], [3, 2, 1, 0])
        self.assertEqual(gap_at(1, [(0, 1)], 0), 0)
        self.assertEqual([gap_at(MOST, [(0, 1)], mark) for mark in (0, 1, MOST - 1)], [0, MOST - 1, 1])
        # Two whole rounds leave one round more, in which there is room for a way between them and for a whole round.
        self.assertEqual([gap_at(2, APART, mark) for mark in range(2)], [longest_by_trial(2, APART, 0, 0)] * 2)

    def test_great_rings(self):
        for marks, records in great_rings():
            rounds = fewest_rounds(marks, records)
            for mark in {0, marks // 2, marks - 1, records[5][0]}:
                gap = gap_at(marks, records, mark)
                self.assertTrue(0 <= gap <= LONGEST)
                if gap:
                    self.assertLessEqual(fewest_rounds(marks, records[1:] + [(mark, gap)]), rounds)
                    self.assertEqual(added_rounds(marks, records, (mark, gap)), 0)
                self.assertGreater(added_rounds(marks, records, (mark, gap + 1)), 0)


class AddedAndSavedTest(RingTest):

    def test_a_further_record_makes_at_most_two_rounds_more(self):
        self.assertEqual(added_rounds(4, [(0, 4)], (3, 2)), 2)
        self.assertEqual(added_rounds(4, [(0, 4)], (0, 4)), 1)
        self.assertEqual(added_rounds(MOST, [(0, MOST)], (1, MOST)), 2)
        for marks, records in great_rings():
            for record in [(0, 1), (marks - 1, marks), (marks // 2, marks // 2 + 1)]:
                self.assertIn(added_rounds(marks, records, record), (0, 1, 2))

    def test_a_31st_record(self):
        self.assertEqual(added_rounds(MOST, [(7, LONGEST)] * 30, (7, LONGEST)), 10)
        self.assertEqual(added_rounds(1, [(0, 1)] * 30, (0, LONGEST)), LONGEST)
        self.assertEqual(added_rounds(31, [(index, 1) for index in range(30)], (30, 1)), 0)
        self.assertEqual(added_rounds(31, [(index, 1) for index in range(30)], (29, 2)), 1)

    def test_without_the_only_record_no_rounds_are_left(self):
        for marks, record, rounds in [(1, (0, 1), 1), (4, (3, 9), 3), (MOST, (5, LONGEST), 10), (1, (0, LONGEST), LONGEST)]:
            self.assertEqual(saved_rounds(marks, [record], 0), rounds)

    def test_without_one_of_thirty(self):
        self.assertEqual(saved_rounds(MOST, [(7, 1)] * 30, 29), 1)
        self.assertEqual(saved_rounds(30, [(index, 1) for index in range(30)], 15), 0)
        self.assertEqual(saved_rounds(MOST, [(7, LONGEST)] * 29 + [(0, 1)], 29), 1)
        self.assertEqual(saved_rounds(MOST, [(7, MOST)] * 29 + [(0, MOST)], 29), 2)

    def test_a_wrong_record(self):
        for record in [(4, 1), (0, 0), (0, LONGEST + 1), [0, 1], None, (0, 1, 2), (True, 1), (0, True)]:
            self.expect("InvalidRecord", {}, added_rounds, 4, THREE, record)
        self.expect("InvalidRecords", {"index": 1}, added_rounds, 4, [(0, 1), (4, 1)], (4, 1))
        self.expect("InvalidRecords", {"index": None}, added_rounds, 4, [(0, 1)] * 31, (4, 1))


class CutTest(RingTest):

    def test_cuts_that_save_and_cuts_that_do_not(self):
        self.assertEqual(cut_saves(2, APART, 0, 1), 1)
        self.assertEqual(cut_saves(2, APART, 1, 1), 1)
        self.assertEqual([cut_saves(4, [(0, 4), (2, 4)], 0, length) for length in (1, 2, 3)], [0, 1, 0])
        self.assertEqual([cut_saves(4, [(0, 8), (2, 4)], 0, length) for length in range(1, 8)], [0, 1, 0, 0, 0, 1, 0])
        self.assertEqual(cut_saves(1, [(0, LONGEST)], 0, 5), 0)

    def test_thirty_records_of_which_one_is_cut(self):
        records = [(7, MOST)] * 29 + [(0, MOST)]
        self.assertEqual(cut_saves(MOST, records, 29, 7), 1)
        self.assertEqual(cut_saves(MOST, records, 29, 8), 0)
        self.assertEqual(cut_saves(MOST, records, 29, MOST - 1), 0)
        self.assertEqual(cut_saves(MOST, [(7, LONGEST)] * 29 + [(0, LONGEST)], 29, 9 * MOST + 7), 1)
        self.assertEqual(cut_saves(MOST, [(7, LONGEST)] * 30, 29, LONGEST - 1), 0)

    def test_lengths_at_the_border(self):
        for length in (0, -1, 4, 5, 10 ** 99, None, True, "1", [1]):
            self.expect("InvalidNumber", {}, cut_saves, 4, [(0, 1), (1, 4)], 1, length)
        for length in (0, 1, 2, -1):
            self.expect("InvalidNumber", {}, cut_saves, 4, [(0, 1), (1, 4)], 0, length)
        self.assertEqual(cut_saves(4, [(0, 1), (1, 4)], 1, 3), 0)
        self.expect("InvalidNumber", {}, cut_saves, 4, [(0, LONGEST)], 0, LONGEST)
        for index in (-1, -2, 2, 10 ** 99, True, None):
            self.expect("InvalidNumber", {}, cut_saves, 4, [(0, 4), (1, 4)], index, 2)
        self.expect("InvalidNumber", {}, cut_saves, 4, THREE, 3, 1)
        self.expect("InvalidNumber", {}, cut_saves, 4, THREE, 2, 1)
        self.expect("InvalidRecords", {"index": 0}, cut_saves, 4, [(0, 0)], 1, 1)
        self.expect("InvalidMarks", {}, cut_saves, 0, [(0, 0)], 1, 1)


if __name__ == "__main__":
    unittest.main()
