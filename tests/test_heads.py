"""Points [9], [20] and [21]: several heads, which read in pieces, whole, or in laps of their own."""

import unittest
from itertools import chain, product
from random import Random

from ringreads.heads import head_bounds, head_plan, heads_run, heads_ticks, pieces_mark, pieces_ticks, shows_head_plan
from ringreads.rings import most_cover
from ringreads.rounds import fewest_rounds
from ringreads.trips import fewest_ticks
from tests.support import ANY_VALUES, APART, THREE, RingTest
from tests.walks import LONGEST, MOST, counted, fewest_laps, great_rings, mixed_rings, small_rings, walked


def all_rings():
    """Small rings, and mixed ones of up to nine records, with heads."""
    chance = Random(40)
    rings = [mixed_rings(40, many, 40 + many) for many in range(4, 10)]
    for marks, records in chain(list(small_rings())[::3], *rings):
        for many in (1, 2, chance.randint(3, 6)):
            yield marks, records, [chance.randrange(marks) for _ in range(many)]


def short_rings():
    """Small and mixed rings without records that are longer than the ring."""
    rings = chain(small_rings(), mixed_rings(150, 4, 51), mixed_rings(60, 5, 52), mixed_rings(20, 6, 53))
    return [ring for ring in rings if max(length for _, length in ring[1]) <= ring[0]]


def great_short_rings():
    """Thirty records of many kinds, none longer than the ring."""
    chance = Random(54)
    yield from [ring for ring in great_rings() if max(length for _, length in ring[1]) <= ring[0]]
    for marks in (7, 30, 1000, MOST):
        yield marks, [(chance.randrange(marks), chance.randint(1, marks)) for _ in range(30)]
        yield marks, [(chance.randrange(marks), chance.randint(1, 1 + marks // 10)) for _ in range(30)]
        # No record lies across the mark 3.
        begins = [chance.randrange(marks) for _ in range(30)]
        yield marks, [((begin + 3) % marks, chance.randint(1, marks - begin)) for begin in begins]


def pieces_by_ticks(marks, records, heads):
    """The ticks after which each arc has been passed as often as its cover says, tick by tick, for covered arcs."""
    left = counted(marks, records)
    ends = {}
    heads = list(heads)
    tick = 0
    while any(left):
        tick += 1
        for arc in heads:
            if left[arc]:
                left[arc] -= 1
                ends[arc] = tick
        heads = [(head + 1) % marks for head in heads]
    return ends


def run_by_ticks(marks, records, heads):
    """Which head begins which record at which tick, tick by tick, and when the last one ends."""
    begun = [None] * len(records)
    busy = [0] * len(heads)
    tick = 0
    while None in begun or max(busy) > 0:
        for head, start in enumerate(heads):
            here = [index for index, record in enumerate(records)
                    if begun[index] is None and record[0] == (start + tick) % marks]
            if busy[head] == 0 and here:
                begun[here[0]] = (head, tick)
                busy[head] = records[here[0]][1]
        busy = [max(0, ticks - 1) for ticks in busy]
        tick += 1
    return begun, tick


def bounds_by_words(marks, records, many):
    """The bounds as the document puts them, mark by mark."""
    most = max(counted(marks, records))
    crossing = [0] * marks
    for begin, length in records:
        for step in range(1, length):
            crossing[(begin + step) % marks] += 1
    low = (most + many - 1) // many
    least = min(crossing)
    return (low, low) if least == 0 else (low, (most + least + many - 1) // many + 1)


class PiecesTest(RingTest):

    def test_small_rings_tick_by_tick(self):
        for marks, records, heads in all_rings():
            ends = pieces_by_ticks(marks, records, heads)
            ticks = max(ends.values())
            self.assertEqual(pieces_ticks(marks, records, heads), ticks, (marks, records, heads))
            self.assertEqual(pieces_mark(marks, records, heads), min(arc for arc in ends if ends[arc] == ticks))

    def test_no_way_to_read_them_ends_earlier(self):
        for marks, records, heads in list(all_rings())[::7]:
            self.assertLessEqual(pieces_ticks(marks, records, heads[:1]), fewest_ticks(marks, records, heads[0]))
            self.assertLessEqual(pieces_ticks(marks, records, heads), pieces_ticks(marks, records, heads[:1]))
            self.assertLessEqual(pieces_ticks(marks, records, heads), heads_ticks(marks, records, heads))

    def test_several_heads_at_one_mark(self):
        self.assertEqual([pieces_ticks(4, [(1, 2)] * 4, [0] * many) for many in range(1, 7)], [15, 7, 7, 3, 3, 3])
        self.assertEqual(pieces_mark(4, [(1, 2)] * 4, [0] * 3), 2)
        self.assertEqual(pieces_ticks(MOST, [(7, LONGEST)] * 30, [7] * 6), 50 * MOST)

    def test_the_least_of_several_marks(self):
        # Each arc but the one ahead of a head needs fewer ticks.
        self.assertEqual(pieces_mark(4, [(0, 4)], [0, 2]), 1)
        self.assertEqual(pieces_mark(4, [(0, 4)], [2, 0]), 1)
        self.assertEqual(pieces_mark(4, [(2, 2)], [0, 2]), 3)
        self.assertEqual(pieces_mark(MOST, [(5, MOST)], [0, MOST // 2]), MOST // 2 - 1)

    def test_rings_at_the_limits(self):
        self.assertEqual(pieces_ticks(1, [(0, LONGEST)], [0]), LONGEST)
        self.assertEqual(pieces_ticks(1, [(0, LONGEST)], [0] * 6), -(-LONGEST // 6))
        self.assertEqual(pieces_mark(1, [(0, LONGEST)], [0] * 6), 0)
        self.assertEqual(pieces_ticks(MOST, [(0, 1)], [1]), MOST)
        self.assertEqual(pieces_mark(MOST, [(0, 1)], [1]), 0)
        self.assertEqual(pieces_ticks(MOST, [(MOST - 1, 2)], [MOST - 1]), 2)
        self.assertEqual(pieces_mark(MOST, [(MOST - 1, 2)], [MOST - 1]), 0)
        self.assertEqual(pieces_ticks(MOST, [(MOST - 1, LONGEST)] * 30, [MOST - 1]), 300 * MOST)
        self.assertEqual(pieces_mark(MOST, [(MOST - 1, LONGEST)] * 30, [MOST - 1]), MOST - 2)


class RunTest(RingTest):

    def test_small_rings_tick_by_tick(self):
        for marks, records, heads in all_rings():
            begun, ticks = run_by_ticks(marks, records, heads)
            self.assertEqual(heads_run(marks, records, heads), begun, (marks, records, heads))
            self.assertEqual(heads_ticks(marks, records, heads), ticks)

    def test_heads_end_less_than_their_last_record_too_late(self):
        for marks, records, heads in all_rings():
            run = heads_run(marks, records, heads)
            ticks = heads_ticks(marks, records, heads)
            last = max(length for (_, tick), (_, length) in zip(run, records) if tick + length == ticks)
            self.assertLess(ticks - last, pieces_ticks(marks, records, heads))

    def test_several_heads_and_records_at_one_mark(self):
        records = [(1, 4), (0, 1), (1, 2), (1, 3)]
        self.assertEqual(heads_run(4, records, [1, 1]), [(0, 0), (1, 3), (1, 0), (0, 4)])
        self.assertEqual(heads_ticks(4, records, [1, 1]), 7)
        # At tick 3 the heads 3 to 5 have read nothing, and the heads 1 and 2 nothing any more.
        self.assertEqual(heads_run(4, records, [1] * 6), [(0, 0), (1, 3), (1, 0), (2, 0)])
        self.assertEqual(heads_run(4, records, [0, 1, 1, 1]), [(1, 0), (0, 0), (2, 0), (3, 0)])

    def test_a_record_ends_where_a_head_waits_for_the_begin_of_another_one(self):
        # At tick 2 the head 0 ends at the mark 2, and the head 1, which has read nothing, passes it.
        records = [(2, 1), (0, 2), (2, 3)]
        self.assertEqual(heads_run(8, records, [0, 0]), [(0, 2), (0, 0), (1, 2)])
        self.assertEqual(heads_run(8, [(0, 2), (2, 1), (2, 3)], [0, 0]), [(0, 0), (0, 2), (1, 2)])
        self.assertEqual(heads_run(8, [(2, 1), (0, 2)], [1, 0]), [(0, 1), (1, 0)])
        self.assertEqual(heads_run(4, [(0, 4), (0, 4), (0, 4)], [0, 0]), [(0, 0), (1, 0), (0, 4)])

    def test_rings_at_the_limits(self):
        self.assertEqual(heads_run(1, [(0, 2), (0, LONGEST), (0, 1)], [0, 0]), [(0, 0), (1, 0), (0, 2)])
        self.assertEqual(heads_run(MOST, [(0, 1), (MOST - 1, LONGEST)], [1]), [(0, LONGEST + MOST - 1), (0, MOST - 2)])
        self.assertEqual(heads_ticks(MOST, [(0, 1), (MOST - 1, LONGEST)], [1]), LONGEST + MOST)
        self.assertEqual(heads_run(MOST, [(7, LONGEST)] * 30, [7] * 6),
                         [(index % 6, index // 6 * LONGEST) for index in range(30)])
        self.assertEqual(heads_ticks(MOST, [(7, LONGEST)] * 30, [7] * 6), 5 * LONGEST)
        self.assertEqual(heads_run(30, [(index, 1) for index in range(30)], [15]),
                         [(0, (index - 15) % 30) for index in range(30)])

    def test_wrong_heads(self):
        for function in (pieces_ticks, pieces_mark, heads_run, heads_ticks):
            self.expect("InvalidHeads", {"index": None}, function, 4, THREE, [0] * 7)
            self.expect("InvalidHeads", {"index": 5}, function, 4, THREE, [0, 1, 2, 3, 0, 4])
            self.expect("InvalidHeads", {"index": 1}, function, 4, THREE, [0, True, 4])
            self.expect("InvalidHeads", {"index": None}, function, 4, THREE, (0, 1))
            self.expect("InvalidRecords", {"index": 0}, function, 4, [(4, 1)], [4])


class BoundsTest(RingTest):

    def test_bounds_by_their_words(self):
        for marks, records in short_rings():
            for many in (1, 2, 3, 4, 7, 30):
                self.assertEqual(head_bounds(marks, records, many), bounds_by_words(marks, records, many),
                                 (marks, records, many))

    def test_thirty_records_by_their_words(self):
        for marks, records in great_short_rings():
            if marks <= 1000:
                for many in (1, 2, 10, 29, 30):
                    self.assertEqual(head_bounds(marks, records, many), bounds_by_words(marks, records, many))

    def test_one_record(self):
        for marks, length in [(1, 1), (4, 1), (4, 4), (MOST, 1), (MOST, MOST), (MOST, MOST - 1)]:
            for many in (1, 10, 30):
                self.assertEqual(head_bounds(marks, [(marks - 1, length)], many), (1, 1))
                self.assertEqual(sorted(head_plan(marks, [(marks - 1, length)], many)), [[]] * (many - 1) + [[0]])

    def test_rings_at_the_limits(self):
        self.assertEqual(head_bounds(MOST, [(7, MOST)] * 30, 1), (30, 30))
        self.assertEqual(head_bounds(MOST, [(7, MOST)] * 30, 30), (1, 1))
        self.assertEqual(head_bounds(MOST, [(7, MOST)] * 29 + [(8, MOST)], 30), (1, 3))
        self.assertEqual(head_bounds(MOST, [(7, MOST)] * 29 + [(8, MOST)], 10), (3, 5))
        self.assertEqual(head_bounds(1, [(0, 1)] * 30, 7), (5, 5))
        # A record of length 2 lies across the mark behind its begin only.
        self.assertEqual(head_bounds(2, [(0, 2), (1, 1)], 1), (2, 2))
        self.assertEqual(head_bounds(2, [(0, 2), (1, 2)], 1), (2, 4))

    def test_records_longer_than_the_ring(self):
        for function, more in ((head_bounds, []), (head_plan, []), (shows_head_plan, [[[0]]])):
            self.expect("Impossible", {}, function, 4, [(0, 5)], 1, *more)
            self.expect("Impossible", {}, function, 4, [(0, 4), (1, LONGEST), (0, 1)], 30, *more)
            self.expect("Impossible", {}, function, MOST, [(0, MOST + 1)], 1, *more)
            # It comes behind the errors of the parameters.
            self.expect("InvalidNumber", {}, function, 4, [(0, 5)], 0, *more)
            self.expect("InvalidNumber", {}, function, 4, [(0, 5)], 31, *more)
            self.expect("InvalidNumber", {}, function, 4, [(0, 5)], True, *more)
            self.expect("InvalidRecords", {"index": 1}, function, 4, [(0, 5), (4, 1)], 0, *more)
        for value in ANY_VALUES:
            self.expect("Impossible", {}, shows_head_plan, 4, [(0, 5)], 1, value)
            self.expect("InvalidNumber", {}, shows_head_plan, 4, [(0, 5)], 0, value)


class PlanTest(RingTest):

    def judge(self, marks, records, many, plan, rounds_of):
        """Check a plan by its words, with a way to tell the fewest rounds."""
        high = head_bounds(marks, records, many)[1]
        self.assertEqual([type(plan), len(plan)], [list, many])
        for row in plan:
            self.assertIs(type(row), list)
            self.assertEqual(row, sorted(set(row)))
            if row:
                self.assertLessEqual(rounds_of(marks, [records[index] for index in row]), high)
        self.assertEqual(sorted(index for row in plan for index in row), list(range(len(records))))
        self.assertIs(shows_head_plan(marks, records, many, plan), True)

    def test_small_rings(self):
        for marks, records in short_rings():
            for many in (1, 2, 3, 5):
                self.judge(marks, records, many, head_plan(marks, records, many),
                           lambda *ring: fewest_laps(*ring)[0])

    def test_thirty_records(self):
        for marks, records in great_short_rings():
            for many in (1, 2, 3, 7, 10, 29, 30):
                plan = head_plan(marks, records, many)
                self.judge(marks, records, many, plan, fewest_rounds)
                self.assertEqual(head_plan(marks, records, many), plan)
                low, high = head_bounds(marks, records, many)
                self.assertEqual(low, -(-most_cover(marks, records) // many))
                self.assertIn(high - low, range(most_cover(marks, records) + 2))

    def test_every_way_to_share_small_rings(self):
        told = {True: 0, False: 0}
        for marks, records in short_rings()[::9]:
            for many in (1, 2, 3):
                low, high = bounds_by_words(marks, records, many)
                for choice in product(range(many), repeat=len(records)):
                    value = [[index for index, head in enumerate(choice) if head == row] for row in range(many)]
                    rounds = [fewest_laps(marks, [records[index] for index in row])[0] for row in value if row]
                    self.assertGreaterEqual(max(rounds), low)
                    self.assertIs(shows_head_plan(marks, records, many, value), max(rounds) <= high, value)
                    told[max(rounds) <= high] += 1
        self.assertGreater(min(told.values()), 50)

    def test_lists_of_plans_are_new(self):
        plan = head_plan(4, [(0, 1)], 30)
        for row in plan:
            row.append(7)
        self.assertEqual([len(row) for row in plan].count(1), 29)
        self.assertEqual(sorted(head_plan(4, [(0, 1)], 30)), [[]] * 29 + [[0]])

    def test_any_value(self):
        for value in ANY_VALUES:
            self.assertIs(shows_head_plan(4, THREE, 2, value), False, value)
            self.assertIs(shows_head_plan(4, THREE, 2, [[0, 2], value]), value == [1], value)
            self.assertIs(shows_head_plan(4, THREE, 2, [value, [0, 2]]), value == [1], value)
            self.assertIs(shows_head_plan(4, THREE, 2, [[0, 2], [value]]), type(value) is int and value == 1, value)
            self.assertIs(shows_head_plan(4, THREE, 1, value), value == [[0, 1, 2]], value)
            self.assertIs(shows_head_plan(4, THREE, 1, [value]), value == [0, 1, 2], value)

    def test_plans_with_one_thing_otherwise(self):
        records = THREE + [(3, 1), (1, 1)]
        good = [[0, 2, 3], [1], [4]]
        self.assertEqual(head_bounds(4, records, 3), (1, 1))
        self.assertIs(shows_head_plan(4, records, 3, good), True)
        self.assertIs(shows_head_plan(4, records, 3, good[::-1]), True)
        for value in [
            [[0, 2, 3], [1], [1]], [[0, 2, 3], [1], [4, 4]], [[0, 2, 2, 3], [1], [4]], [[0, 2, 3], [1], [2, 4]],
            [[0, 2, 3], [1], []], [[0, 2], [1], [4]], [[2, 3], [1], [4]], [[0, 3, 2], [1], [4]], [[2, 0, 3], [1], [4]],
            [[0, 2, 3], [1], [4], []], [[0, 2, 3], [1]], [[0, 2, 3], [1, 4]], [[], *good], ([0, 2, 3], [1], [4]),
            [(0, 2, 3), [1], [4]], [[0, 2, 3], (1,), [4]], [[0, 2, 3], [True], [4]], [[False, 2, 3], [1], [4]],
            [[0, 2, 3], [1], [5]], [[0, 2, 3], [1], [4, 5]], [[0, 2, 3], [1], [-1]], [[0, 2, 3], [1], 4], [0, 1, 2],
            [[0, 2, 3], [1], [4], None], [[0, 2, 3], [1], ["4"]], [[0, 2, 3], [1], [[4]]], [[0, 2, 3], [1], {"4": 4}],
            [[0, 2], [1], [3, 4, 10 ** 99]], [[0, 1, 2, 3, 4], [], []], [[0], [1, 3], [2]],
        ]:
            self.assertIs(shows_head_plan(4, records, 3, value), False, value)

    def test_a_list_whose_records_have_no_lap_of_so_few_rounds(self):
        # The records 0 and 4 lie over the arc 1 both, so they need two rounds.
        records = THREE + [(3, 1), (1, 1)]
        self.assertIs(shows_head_plan(4, records, 3, [[0, 4], [1], [2, 3]]), False)
        self.assertIs(shows_head_plan(4, records, 3, [[0, 3], [1], [2, 4]]), True)
        self.assertIs(shows_head_plan(4, records, 3, [[0], [1, 3], [2, 4]]), True)
        # Two whole rounds at unlike marks need three rounds, which is high for two heads; four would be too many.
        self.assertIs(shows_head_plan(2, APART, 2, [[0, 1], []]), True)
        self.assertEqual(head_bounds(2, APART, 30), (1, 2))
        self.assertIs(shows_head_plan(2, APART, 30, [[0, 1]] + [[]] * 29), False)
        self.assertIs(shows_head_plan(2, APART, 30, [[0]] + [[]] * 28 + [[1]]), True)


class WalkedTest(unittest.TestCase):

    def test_the_marks_that_a_record_lies_across(self):
        # What the document says with begin and length is the same as a walk over its arcs.
        for marks in range(1, 6):
            for begin, length in product(range(marks), range(1, marks + 1)):
                marks_within = walked(marks, (begin, length))[0][1:]
                formula = [mark for mark in range(marks) if 1 <= (mark - begin) % marks <= length - 1]
                self.assertEqual(sorted(marks_within), formula)


if __name__ == "__main__":
    unittest.main()
