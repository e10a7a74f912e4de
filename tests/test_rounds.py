"""Points [6] and [15]: the fewest rounds, the least lap, parts, and papers that refuse fewer rounds."""

import unittest
from itertools import chain, combinations, product

from ringreads.orders import is_lap, lap_rounds
from ringreads.rings import mirrored, most_cover, moved
from ringreads.rounds import fewest_rounds, least_lap, parts, refusal, shows_refusal
from tests.support import ANY_VALUES, APART, THREE, RingTest
from tests.walks import LONGEST, MOST, counted, fewest_laps, great_rings, mixed_rings, small_rings, walked


def all_rings():
    """Small rings, and mixed ones with up to six records."""
    return chain(small_rings(), mixed_rings(300, 4, 1), mixed_rings(150, 5, 2), mixed_rings(40, 6, 3))


def rooms_by_arcs(marks, records, rounds):
    """The rooms for so many rounds, mark by mark: for each mark the least mark of its room."""
    cover = counted(marks, records)
    rooms = list(range(marks))
    for _ in range(marks):
        for arc in range(marks):
            if rounds > cover[arc]:
                after = (arc + 1) % marks
                rooms[arc] = rooms[after] = min(rooms[arc], rooms[after])
    return rooms


def parts_by_rooms(marks, records, rounds):
    """The parts for so many rounds: records that touch one room are in one part, and so on."""
    rooms = rooms_by_arcs(marks, records, rounds)
    touched = [{rooms[record[0]], rooms[walked(marks, record)[1]]} for record in records]
    left = list(range(len(records)))
    found = []
    while left:
        part = [left[0]]
        for _ in records:
            part = [index for index in left if any(touched[index] & touched[other] for other in part)]
        left = [index for index in left if index not in part]
        found.append(part)
    return found


def papers_of(marks, records, rounds):
    """All papers of the document's kind that show that there is no lap with at most so many rounds."""
    cover = counted(marks, records)
    found = [("mark", mark) for mark in range(marks) if cover[mark] > rounds]
    if not found:
        split = parts_by_rooms(marks, records, rounds)
        for many in range(1, len(split)):
            for some in combinations(split, many):
                found.append(("split", sorted(index for part in some for index in part)))
    return found


class FewestRoundsTest(unittest.TestCase):

    def test_small_rings_against_all_laps(self):
        for marks, records in all_rings():
            fewest, laps = fewest_laps(marks, records)
            self.assertEqual(fewest_rounds(marks, records), fewest, (marks, records))
            self.assertEqual(least_lap(marks, records), laps[0], (marks, records))

    def test_one_record(self):
        for marks, length, rounds in [(1, 1, 1), (4, 1, 1), (4, 4, 1), (4, 5, 2), (4, 8, 2), (4, 9, 3), (MOST, 1, 1),
                                      (MOST, MOST, 1), (MOST, MOST + 1, 2), (MOST, LONGEST, 10), (1, LONGEST, LONGEST)]:
            records = [(marks - 1, length)]
            self.assertEqual(fewest_rounds(marks, records), rounds)
            self.assertEqual(least_lap(marks, records), [0])
            self.assertEqual(parts(marks, records), [[0]])

    def test_whole_rounds_that_do_not_meet_need_one_round_more(self):
        self.assertEqual(fewest_rounds(2, [(0, 2), (1, 2)]), 3)
        self.assertEqual(fewest_rounds(2, [(0, 2), (0, 2)]), 2)
        self.assertEqual(fewest_rounds(MOST, [(index, MOST) for index in range(30)]), 31)
        self.assertEqual(fewest_rounds(MOST, [(index, LONGEST) for index in range(30)]), 301)
        self.assertEqual(fewest_rounds(MOST, [(5, LONGEST)] * 30), 300)
        # One record that leads from one begin to the other joins them.
        self.assertEqual(fewest_rounds(4, [(0, 4), (2, 4)]), 3)
        self.assertEqual(fewest_rounds(4, [(0, 4), (2, 4), (0, 2)]), 3)

    def test_thirty_records_one_behind_the_other(self):
        self.assertEqual(fewest_rounds(30, [(index, 1) for index in range(30)]), 1)
        self.assertEqual(least_lap(30, [(index, 1) for index in range(30)]), list(range(30)))
        records = [(-index % 30, 1) for index in range(30)]
        self.assertEqual(least_lap(30, records), [0, *range(29, 0, -1)])

    def test_equal_records_are_read_by_ascending_indices(self):
        for marks in (2, MOST):
            self.assertEqual(least_lap(marks, [(1, 1)] * 30), list(range(30)))
            self.assertEqual(fewest_rounds(marks, [(1, 1)] * 30), 30)

    def test_a_ring_of_one_mark(self):
        self.assertEqual(fewest_rounds(1, [(0, LONGEST)] * 30), 30 * LONGEST)
        self.assertEqual(least_lap(1, [(0, index + 1) for index in range(30)]), list(range(30)))

    def test_great_rings(self):
        for marks, records in great_rings():
            fewest = fewest_rounds(marks, records)
            lap = least_lap(marks, records)
            self.assertIn(fewest - most_cover(marks, records), (0, 1))
            self.assertEqual(fewest == most_cover(marks, records), len(parts(marks, records)) == 1)
            self.assertTrue(is_lap(marks, records, lap))
            self.assertEqual(lap_rounds(marks, records, lap), fewest)
            self.assertEqual(fewest_rounds(marks, mirrored(marks, records)), fewest)
            self.assertEqual(fewest_rounds(marks, moved(marks, records, 12345)), fewest)
            self.assertEqual(least_lap(marks, moved(marks, records, -17)), lap)


class PartsTest(unittest.TestCase):

    def test_small_rings_mark_by_mark(self):
        for marks, records in all_rings():
            most = max(counted(marks, records))
            self.assertEqual(parts(marks, records), parts_by_rooms(marks, records, most), (marks, records))

    def test_parts_that_take_turns(self):
        self.assertEqual(parts(4, [(0, 4), (2, 4), (0, 4), (2, 4)]), [[0, 2], [1, 3]])
        self.assertEqual(parts(4, [(3, 4), (1, 4), (3, 4), (2, 4)]), [[0, 2], [1], [3]])
        self.assertEqual(parts(MOST, [(index % 3, MOST) for index in range(30)]),
                         [list(range(0, 30, 3)), list(range(1, 30, 3)), list(range(2, 30, 3))])

    def test_a_room_goes_over_the_mark_0(self):
        # Only the arc 1 has no idle pass: the records at 3 and at 0 touch one room, which ends at 1.
        self.assertEqual(parts(4, [(3, 4), (0, 4), (1, 1)]), [[0, 1, 2]])
        # The arcs 0 and 2 have none: 1 and 2 are in one room, 3 and 0 in the other one.
        self.assertEqual(parts(4, [(3, 4), (1, 4), (0, 1), (2, 1)]), [[0, 1, 2, 3]])
        self.assertEqual(parts(4, [(3, 4), (0, 4), (1, 4), (2, 4), (1, 3), (0, 1), (2, 2)]),
                         parts_by_rooms(4, [(3, 4), (0, 4), (1, 4), (2, 4), (1, 3), (0, 1), (2, 2)], 6))

    def test_each_lap_of_the_fewest_rounds_has_one_part_or_one_round_more(self):
        for marks, records in all_rings():
            more = fewest_rounds(marks, records) - max(counted(marks, records))
            self.assertEqual(more, 0 if len(parts(marks, records)) == 1 else 1)


class PapersTest(RingTest):

    def check(self, marks, records):
        fewest = fewest_rounds(marks, records)
        for rounds in range(max(0, fewest - 4), most_cover(marks, records) + 3):
            paper = refusal(marks, records, rounds)
            if rounds >= fewest:
                self.assertIsNone(paper, (marks, records, rounds))
                continue
            self.assertEqual(type(paper), tuple)
            kind = "mark" if rounds < most_cover(marks, records) else "split"
            self.assertEqual(paper[0], kind)
            self.assertEqual(type(paper[1]), int if kind == "mark" else list)
            self.assertIs(shows_refusal(marks, records, rounds, paper), True)
            self.assertEqual(refusal(marks, records, rounds), paper)

    def test_refusals_at_every_number_of_rounds(self):
        for marks, records in all_rings():
            fewest, _ = fewest_laps(marks, records)
            for rounds in range(max(counted(marks, records)) + 3):
                paper = refusal(marks, records, rounds)
                if rounds >= fewest:
                    self.assertIsNone(paper, (marks, records, rounds))
                else:
                    self.assertIn(paper, papers_of(marks, records, rounds))
                    self.assertIs(shows_refusal(marks, records, rounds, paper), True)

    def test_great_rings(self):
        for marks, records in great_rings():
            self.check(marks, records)
            self.assertEqual(refusal(marks, records, 0)[0], "mark")
            self.assertIsNone(refusal(marks, records, 10 ** 44))

    def test_every_paper_of_small_rings(self):
        for marks, records in mixed_rings(150, 4, 4):
            for rounds in range(max(counted(marks, records)) + 3):
                papers = papers_of(marks, records, rounds)
                for mark in range(marks):
                    self.assertIs(shows_refusal(marks, records, rounds, ("mark", mark)), ("mark", mark) in papers)
                for choice in product((False, True), repeat=4):
                    split = ("split", [index for index in range(4) if choice[index]])
                    self.assertIs(shows_refusal(marks, records, rounds, split), split in papers, split)

    def test_any_value(self):
        for value in ANY_VALUES:
            for rounds in (0, 1, 2, 3):
                self.assertIs(shows_refusal(2, APART, rounds, value), False, value)
                self.assertIs(shows_refusal(2, APART, rounds, ("mark", value)), type(value) is int and rounds < 2
                              and value in (0, 1), value)
                self.assertIs(shows_refusal(2, APART, rounds, ("split", value)), rounds == 2 and value == [1], value)
                self.assertIs(shows_refusal(2, APART, rounds, ("split", [value])), rounds == 2 and type(value) is int
                              and value in (0, 1), value)
                self.assertIs(shows_refusal(2, APART, rounds, (value, 0)), rounds < 2 and value == "mark", value)
                self.assertIs(shows_refusal(2, APART, rounds, (value, [0])), rounds == 2 and value == "split", value)

    def test_a_mark_with_one_thing_otherwise(self):
        self.assertIs(shows_refusal(4, THREE, 1, ("mark", 1)), True)
        self.assertIs(shows_refusal(4, THREE, 1, ("mark", 2)), True)
        for value in [("mark", 0), ("mark", 3), ("mark", 4), ("mark", 5), ("mark", -3), ("mark", True), ("mark", "1"),
                      ("mark", [1]), ("mark", None), ["mark", 1], ("mark",), ("mark", 1, 1), ("split", 1), ("Mark", 1),
                      ("mark ", 1), (1, "mark"), (("mark", 1),), {"mark": 1}, "mark 1", ("split", [1]), ("mark", (1,)),
                      ("", 1), (None, 1), ("mark", 10 ** 99), ("mark", -10 ** 99)]:
            self.assertIs(shows_refusal(4, THREE, 1, value), False, value)
        self.assertIs(shows_refusal(4, THREE, 2, ("mark", 1)), False)
        self.assertIs(shows_refusal(4, THREE, 0, ("mark", 3)), False)
        self.assertIs(shows_refusal(4, THREE, 0, ("mark", 0)), True)
        self.assertIs(shows_refusal(4, [(0, 8), (1, 1)], 0, ("mark", True)), False)
        self.assertIs(shows_refusal(4, [(0, 8), (1, 1)], 0, ("mark", False)), False)

    def test_a_split_with_one_thing_otherwise(self):
        records = [(0, 4), (2, 4), (0, 4), (2, 4), (1, 4)]
        for value in [[0, 2], [1, 3], [4], [0, 1, 2, 3], [0, 2, 4], [1, 3, 4]]:
            self.assertIs(shows_refusal(4, records, 5, ("split", value)), True, value)
            self.assertIs(shows_refusal(4, records, 6, ("split", value)), False, value)
            self.assertIs(shows_refusal(4, records, 4, ("split", value)), False, value)
        for value in [[], [0], [1], [2], [2, 0], [3, 1], [0, 2, 2], [0, 0, 2], [4, 4], [0, 1, 2, 3, 4], [0, 2, 5],
                      [-1], [5], [-1, 4], [4, 5], [-1, 0, 2], [4, 0, 2], (0, 2), (4,), [0, 2.0], [False, 2], [True, 3], ["4"], [[4]],
                      [None], 4, "4", {"4": 4}, [0, 2, None], [4, None], [None, 4], [0, 1, 2, 3, 4, 5], [0, 3], [1, 2],
                      [10 ** 99], [-10 ** 99], [0, 2, 10 ** 99], [(4,)], [4] * 200]:
            self.assertIs(shows_refusal(4, records, 5, ("split", value)), False, value)
        for value in [["split", [0, 2]], ("split",), ("split", [0, 2], [1, 3]), ("mark", [0, 2]), ("Split", [0, 2]),
                      ("splits", [4]), ([0, 2], "split"), [0, 2], ("split", 0, 2), ("split", ([0, 2],)), ("", [4])]:
            self.assertIs(shows_refusal(4, records, 5, value), False, value)

    def test_true_is_no_index_where_1_is(self):
        records = [(0, 2), (1, 2)]
        self.assertIs(shows_refusal(2, records, 2, ("split", [1])), True)
        self.assertIs(shows_refusal(2, records, 2, ("split", [True])), False)
        self.assertIs(shows_refusal(2, records, 2, ("split", [False])), False)
        self.assertIs(shows_refusal(2, records, 1, ("mark", 1)), True)
        self.assertIs(shows_refusal(2, records, 1, ("mark", True)), False)

    def test_a_split_needs_that_no_arc_has_a_cover_above(self):
        records = [(0, 4), (2, 4), (1, 1)]
        self.assertEqual(most_cover(4, records), 3)
        for rounds in (0, 1, 2):
            self.assertIs(shows_refusal(4, records, rounds, ("split", [0])), False)
            self.assertEqual(refusal(4, records, rounds)[0], "mark")

    def test_one_record_has_no_split(self):
        for value in [[], [0], [0, 0], [1]]:
            for rounds in range(4):
                self.assertIs(shows_refusal(4, [(0, 8)], rounds, ("split", value)), False)
        self.assertEqual([refusal(1, [(0, 2)], rounds) for rounds in range(4)], [("mark", 0), ("mark", 0), None, None])

    def test_thirty_whole_rounds(self):
        records = [(index % 2, MOST) for index in range(30)]
        self.assertIn(refusal(MOST, records, 30), [("split", list(range(0, 30, 2))), ("split", list(range(1, 30, 2)))])
        self.assertIsNone(refusal(MOST, records, 31))
        self.assertEqual(refusal(MOST, records, 29)[0], "mark")
        self.assertIs(shows_refusal(MOST, records, 29, ("mark", MOST - 1)), True)
        self.assertIs(shows_refusal(MOST, records, 29, ("mark", MOST)), False)
        self.assertIs(shows_refusal(MOST, records, 30, ("split", list(range(1, 30, 2)))), True)
        self.assertIs(shows_refusal(MOST, records, 30, ("split", list(range(30)))), False)

    def test_lists_of_papers_and_parts_are_new(self):
        first, second = refusal(2, APART, 2), refusal(2, APART, 2)
        self.assertIsNot(first[1], second[1])
        first[1].append(7)
        self.assertEqual(refusal(2, APART, 2), second)
        found = parts(2, APART)
        found[0].append(7)
        self.assertEqual(parts(2, APART), [[0], [1]])
        both = parts(4, [(0, 4), (2, 4)])
        self.assertIsNot(both[0], both[1])


if __name__ == "__main__":
    unittest.main()
