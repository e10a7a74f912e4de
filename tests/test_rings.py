"""Points [4] and [13]: records on a ring."""

import unittest
from itertools import product

from ringreads.rings import cover_at, covers, ends_of, is_records, mirrored, most_cover, moved, multiplied
from tests.support import NO_RECORDS, NOT_LISTS, THREE, RingTest
from tests.walks import LONGEST, MOST, counted, great_rings, walked


def small_rings():
    """All lists of one and two records with lengths of 1 to 6, and many of three, on rings of 1 to 4 marks."""
    for marks in range(1, 5):
        records = list(product(range(marks), range(1, 7)))
        for record in records:
            yield marks, [record]
        for pair in product(records, repeat=2):
            yield marks, list(pair)
        for triple in product(records[::3], records[1::4], records[2::5]):
            yield marks, list(triple)


class IsRecordsTest(unittest.TestCase):

    def test_lists_of_records(self):
        for marks, value in [
            (4, THREE), (4, [(3, 1)]), (4, [(0, LONGEST)]), (1, [(0, 1)]), (1, [(0, LONGEST)]), (MOST, [(MOST - 1, 1)]),
            (4, [(0, 2)] * 30), (MOST, [(MOST - 1, LONGEST)] * 30), (4, [(1, 2), (1, 3), (1, 2)]),
        ]:
            self.assertIs(is_records(marks, value), True, (marks, value))

    def test_marks_and_lengths_at_the_border(self):
        for marks in (1, 2, 4, MOST):
            self.assertIs(is_records(marks, [(marks - 1, 1)]), True)
            self.assertIs(is_records(marks, [(marks, 1)]), False)
            self.assertIs(is_records(marks, [(-1, 1)]), False)
            self.assertIs(is_records(marks, [(0, 0)]), False)
            self.assertIs(is_records(marks, [(0, LONGEST)]), True)
            self.assertIs(is_records(marks, [(0, LONGEST + 1)]), False)

    def test_so_many_records(self):
        for many in range(33):
            self.assertIs(is_records(4, [(0, 2)] * many), 1 <= many <= 30, many)

    def test_any_other_value(self):
        for value in NOT_LISTS:
            self.assertIs(is_records(4, value), False, value)

    def test_a_list_with_any_other_item(self):
        for item in NO_RECORDS:
            for value in ([item], [item, (0, 2)], [(0, 2), item], [(0, 2), item, (0, 2)], [(0, 2)] * 29 + [item]):
                self.assertIs(is_records(4, value), False, value)


class CoverTest(unittest.TestCase):

    def test_small_rings_arc_by_arc(self):
        for marks, records in small_rings():
            cover = counted(marks, records)
            ends = [walked(marks, record)[1] for record in records]
            borders = sorted({begin for begin, _ in records} | set(ends))
            self.assertEqual(ends_of(marks, records), ends)
            self.assertEqual([cover_at(marks, records, mark) for mark in range(marks)], cover)
            self.assertEqual(covers(marks, records), [(mark, cover[mark]) for mark in borders])
            self.assertEqual(most_cover(marks, records), max(cover))

    def test_a_ring_of_one_mark(self):
        records = [(0, 1), (0, 7), (0, LONGEST)]
        self.assertEqual(ends_of(1, records), [0, 0, 0])
        self.assertEqual(cover_at(1, records, 0), LONGEST + 8)
        self.assertEqual(covers(1, records), [(0, LONGEST + 8)])
        self.assertEqual(most_cover(1, records), LONGEST + 8)

    def test_the_greatest_ring(self):
        last = MOST - 1
        records = [(last, 1), (last, 2), (5, LONGEST), (0, LONGEST - 1)]
        self.assertEqual(ends_of(MOST, records), [0, 1, 5, last])
        self.assertEqual(covers(MOST, records), [(0, 21), (1, 20), (5, 20), (last, 21)])
        self.assertEqual([cover_at(MOST, records, mark) for mark in (0, 1, 4, 5, last - 1, last)],
                         [21, 20, 20, 20, 20, 21])
        self.assertEqual(most_cover(MOST, records), 21)

    def test_a_record_over_the_border(self):
        self.assertEqual(ends_of(4, [(3, 1), (3, 2), (2, 5)]), [0, 1, 3])
        self.assertEqual(covers(4, [(3, 2)]), [(1, 0), (3, 1)])
        self.assertEqual([cover_at(4, [(3, 2)], mark) for mark in range(4)], [1, 0, 0, 1])

    def test_a_record_whose_end_is_its_begin(self):
        for rounds in (1, 2, 10):
            self.assertEqual(ends_of(4, [(3, 4 * rounds)]), [3])
            self.assertEqual(covers(4, [(3, 4 * rounds)]), [(3, rounds)])
            self.assertEqual([cover_at(4, [(3, 4 * rounds)], mark) for mark in range(4)], [rounds] * 4)

    def test_records_with_one_begin(self):
        records = [(1, 1), (1, 1), (1, 2), (1, 6)]
        self.assertEqual(ends_of(4, records), [2, 2, 3, 3])
        self.assertEqual(covers(4, records), [(1, 5), (2, 3), (3, 1)])
        self.assertEqual(most_cover(4, records), 5)

    def test_great_rings_arc_by_arc_beside_borders(self):
        for marks, records in great_rings():
            found = covers(marks, records)
            borders = sorted({begin for begin, _ in records} | set(ends_of(marks, records)))
            self.assertEqual(found, [(mark, cover_at(marks, records, mark)) for mark in borders])
            self.assertEqual(most_cover(marks, records), max(cover for _, cover in found))
            for (mark, cover), (after, _) in zip(found, found[1:] + found[:1]):
                self.assertEqual(cover_at(marks, records, (after - 1) % marks), cover, (marks, mark))

    def test_thirty_records(self):
        records = [(index, 30 - index) for index in range(30)]
        self.assertEqual(ends_of(30, records), [0] * 30)
        self.assertEqual(covers(30, records), [(mark, mark + 1) for mark in range(30)])
        self.assertEqual(most_cover(30, records), 30)
        self.assertEqual(most_cover(MOST, [(7, LONGEST)] * 30), 300)


class MovedTest(unittest.TestCase):

    def test_small_rings_by_any_sign(self):
        for marks, records in small_rings():
            for by in (0, 1, -1, 3, -6):
                found = moved(marks, records, by)
                self.assertEqual([length for _, length in found], [length for _, length in records])
                self.assertTrue(is_records(marks, found))
                for (begin, _), (old, _) in zip(found, records):
                    self.assertEqual((begin - old - by) % marks, 0)

    def test_moved_to_and_fro(self):
        self.assertEqual(moved(4, THREE, 0), THREE)
        self.assertEqual(moved(4, THREE, 1), [(1, 2), (2, 2), (3, 1)])
        self.assertEqual(moved(4, THREE, 2), [(2, 2), (3, 2), (0, 1)])
        self.assertEqual(moved(4, THREE, -2), [(2, 2), (3, 2), (0, 1)])
        self.assertEqual(moved(4, THREE, 4 * 10 ** 44), THREE)
        self.assertEqual(moved(4, THREE, 10 ** 100 - 1), moved(4, THREE, -1))
        self.assertEqual(moved(4, THREE, 1 - 10 ** 100), moved(4, THREE, 1))

    def test_rings_at_the_limits(self):
        self.assertEqual(moved(1, [(0, LONGEST)], -17), [(0, LONGEST)])
        self.assertEqual(moved(MOST, [(MOST - 1, LONGEST), (0, 1)], 1), [(0, LONGEST), (1, 1)])
        self.assertEqual(moved(MOST, [(MOST - 1, LONGEST), (0, 1)], -1), [(MOST - 2, LONGEST), (MOST - 1, 1)])
        self.assertEqual(moved(2, [(1, 3)] * 30, 1), [(0, 3)] * 30)


class MirroredTest(unittest.TestCase):

    def test_small_rings_arc_by_arc(self):
        for marks, records in small_rings():
            found = mirrored(marks, records)
            self.assertTrue(is_records(marks, found))
            self.assertEqual(mirrored(marks, found), records)
            # The arc x leads from x to x + 1, so it is the arc from -(x + 1) to -x of the mirrored ring.
            for record, (begin, length) in zip(records, found):
                arcs = [-(arc + 1) % marks for arc in walked(marks, record)[0]]
                self.assertEqual(walked(marks, (begin, length))[0], arcs[::-1])

    def test_rings_at_the_limits(self):
        self.assertEqual(mirrored(1, [(0, 3), (0, LONGEST)]), [(0, 3), (0, LONGEST)])
        self.assertEqual(mirrored(MOST, [(0, 1), (MOST - 1, 1), (5, LONGEST)]),
                         [(MOST - 1, 1), (0, 1), (MOST - 5, LONGEST)])
        self.assertEqual(mirrored(4, [(1, 2)] * 30), [(1, 2)] * 30)


class MultipliedTest(RingTest):

    def test_ordinary_factors(self):
        self.assertEqual(multiplied(4, THREE, 1), THREE)
        self.assertEqual(multiplied(4, THREE, 3), [(0, 6), (3, 6), (6, 3)])
        self.assertEqual(multiplied(1, [(0, 5)] * 30, 7), [(0, 35)] * 30)

    def test_each_arc_becomes_so_many_arcs(self):
        for marks, records in small_rings():
            for factor in (1, 2, 3):
                found = multiplied(marks, records, factor)
                cover = counted(marks, records)
                self.assertEqual(counted(marks * factor, found), [cover[arc // factor] for arc in range(marks * factor)])

    def test_marks_that_just_fit_and_just_do_not(self):
        self.assertEqual(multiplied(1, [(0, 1)], MOST), [(0, MOST)])
        self.expect("Impossible", {}, multiplied, 1, [(0, 1)], MOST + 1)
        self.assertEqual(multiplied(4, [(3, 1)], MOST // 4), [(3 * (MOST // 4), MOST // 4)])
        self.expect("Impossible", {}, multiplied, 4, [(3, 1)], MOST // 4 + 1)
        self.assertEqual(multiplied(MOST, [(MOST - 1, 5)], 1), [(MOST - 1, 5)])
        self.expect("Impossible", {}, multiplied, MOST, [(0, 1)], 2)
        # 3 does not divide the greatest number of marks.
        self.assertEqual(multiplied(3, [(2, 1)], MOST // 3), [(2 * (MOST // 3), MOST // 3)])
        self.expect("Impossible", {}, multiplied, 3, [(2, 1)], MOST // 3 + 1)

    def test_lengths_that_just_fit_and_just_do_not(self):
        self.assertEqual(multiplied(2, [(1, LONGEST)], 1), [(1, LONGEST)])
        self.expect("Impossible", {}, multiplied, 2, [(1, LONGEST)], 2)
        self.assertEqual(multiplied(2, [(1, LONGEST // 10)], 10), [(10, LONGEST)])
        self.expect("Impossible", {}, multiplied, 2, [(1, LONGEST // 10)], 11)
        self.expect("Impossible", {}, multiplied, 2, [(1, LONGEST // 10 + 1)], 10)
        self.assertEqual(multiplied(1, [(0, 10)], MOST), [(0, LONGEST)])
        self.expect("Impossible", {}, multiplied, 1, [(0, 11)], MOST)

    def test_any_length_that_is_too_great(self):
        for at in range(3):
            records = [(0, 1), (1, 2), (0, 3)]
            records[at] = (1, LONGEST // 2 + 1)
            self.expect("Impossible", {}, multiplied, 2, records, 2)
        self.expect("Impossible", {}, multiplied, 4, THREE, 10 ** 100 - 1)


if __name__ == "__main__":
    unittest.main()
