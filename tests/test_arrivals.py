"""Points [10], [22] and [23]: records that arrive over time, and a game against any rule."""

import unittest
from itertools import permutations, product
from random import Random

from ringreads.arrivals import arrival_bound, arrival_run, arrival_ticks, forced_ticks, forcing_more, forcing_start
from ringreads.heads import heads_run, pieces_ticks
from tests.support import LATE, RingTest
from tests.walks import LONGEST, MOST, counted, great_rings


def all_arrivals():
    """Arrivals on small rings, each with a mark of the head."""
    chance = Random(60)
    for _ in range(1500):
        marks = chance.randint(1, 8)
        longest = chance.choice([1, 2, marks, 2 * marks])
        latest = chance.choice([0, 1, marks, 5 * marks, 20 * marks])
        many = chance.randint(1, 9)
        yield marks, chance.randrange(marks), [
            (chance.randrange(marks), chance.randint(1, longest), chance.randint(0, latest)) for _ in range(many)]


def run_by_ticks(marks, mark, arrivals):
    """At which tick which arrival is begun, tick by tick, and when the last one ends."""
    begun = [None] * len(arrivals)
    busy = tick = 0
    while None in begun or busy:
        here = [index for index, (begin, _, come) in enumerate(arrivals)
                if begun[index] is None and begin == mark and come <= tick]
        if busy == 0 and here:
            begun[here[0]] = tick
            busy = arrivals[here[0]][1]
        busy = max(0, busy - 1)
        mark, tick = (mark + 1) % marks, tick + 1
    return begun, tick


def bound_by_passes(marks, mark, arrivals):
    """The bound by its words, pass by pass."""
    found = []
    for _, _, start in arrivals:
        left = counted(marks, [(begin, length) for begin, length, come in arrivals if come >= start])
        tick = start
        while any(left):
            arc = (mark + tick) % marks
            tick += 1
            if left[arc]:
                left[arc] -= 1
                found.append(tick)
    return max(found)


def hindsight(marks, mark, arrivals):
    """The fewest ticks at which one head can have read all arrivals, by all sequences."""
    ends = []
    for order in permutations(arrivals):
        tick = 0
        for begin, length, come in order:
            tick = max(tick, come)
            while (mark + tick) % marks != begin:
                tick += 1
            tick += length
        ends.append(tick)
    return min(ends)


class RunTest(RingTest):

    def test_small_rings_tick_by_tick(self):
        for marks, mark, arrivals in all_arrivals():
            begun, ticks = run_by_ticks(marks, mark, arrivals)
            self.assertEqual(arrival_run(marks, mark, arrivals), begun, (marks, mark, arrivals))
            self.assertEqual(arrival_ticks(marks, mark, arrivals), ticks)

    def test_arrivals_at_tick_0_are_records(self):
        for marks, records in great_rings():
            arrivals = [(begin, length, 0) for begin, length in records]
            for mark in {0, marks - 1}:
                run = [tick for _, tick in heads_run(marks, records, [mark])]
                self.assertEqual(arrival_run(marks, mark, arrivals), run)
                self.assertEqual(arrival_bound(marks, mark, arrivals), pieces_ticks(marks, records, [mark]))

    def test_an_arrival_at_the_tick_at_which_its_begin_is_passed(self):
        for marks in (4, MOST):
            self.assertEqual(arrival_run(marks, 0, [(3, 1, 3)]), [3])
            self.assertEqual(arrival_run(marks, 0, [(3, 1, 2)]), [3])
            self.assertEqual(arrival_run(marks, 0, [(3, 1, 4)]), [3 + marks])
            self.assertEqual(arrival_run(marks, 3, [(3, 1, 0)]), [0])
            self.assertEqual(arrival_run(marks, 3, [(3, 1, 1)]), [marks])
            self.assertEqual(arrival_run(marks, 3, [(3, 1, marks)]), [marks])
            self.assertEqual(arrival_ticks(marks, 3, [(3, 1, marks + 1)]), 2 * marks + 1)

    def test_an_arrival_while_the_head_reads(self):
        # The first one ends at tick 3 at the mark 3, where the second one has just come, comes later, or was there.
        for come, begun in ((0, 3), (2, 3), (3, 3), (4, 7)):
            self.assertEqual(arrival_run(4, 0, [(0, 3, 0), (3, 1, come)]), [0, begun])

    def test_of_several_the_least_index(self):
        self.assertEqual(arrival_run(4, 1, [(1, 4, 1), (1, 4, 0), (1, 1, 0)]), [4, 0, 8])
        self.assertEqual(arrival_run(4, 0, [(1, 4, 1), (1, 4, 0), (1, 1, 0)]), [1, 5, 9])
        self.assertEqual(arrival_run(1, 0, [(0, 2, 5), (0, 1, 0), (0, 3, 0)]), [5, 0, 1])
        self.assertEqual(arrival_run(1, 0, [(0, 2, 4), (0, 1, 0), (0, 3, 0)]), [4, 0, 1])
        self.assertEqual(arrival_run(1, 0, [(0, 2, 3), (0, 1, 0), (0, 3, 0), (0, 9, 0)]), [4, 0, 1, 6])

    def test_one_arrival(self):
        self.assertEqual(arrival_run(1, 0, [(0, LONGEST, LONGEST)]), [LONGEST])
        self.assertEqual(arrival_ticks(1, 0, [(0, LONGEST, LONGEST)]), 2 * LONGEST)
        self.assertEqual(arrival_run(MOST, 0, [(MOST - 1, LONGEST, LONGEST)]), [LONGEST + MOST - 1])
        self.assertEqual(arrival_ticks(MOST, 0, [(MOST - 1, LONGEST, LONGEST)]), 2 * LONGEST + MOST - 1)
        self.assertEqual(arrival_bound(MOST, 0, [(MOST - 1, LONGEST, LONGEST)]), 2 * LONGEST)
        self.assertEqual(arrival_bound(MOST, 0, [(MOST - 1, 1, 0)]), MOST)

    def test_thirty_arrivals(self):
        arrivals = [(7, MOST, index * MOST) for index in range(29, -1, -1)]
        self.assertEqual(arrival_run(MOST, 7, [(7, MOST, min(come, LONGEST)) for _, _, come in arrivals][20:]),
                         [index * MOST for index in range(9, -1, -1)])
        arrivals = [(7, LONGEST, LONGEST)] * 30
        self.assertEqual(arrival_run(MOST, 7, arrivals), [index * LONGEST for index in range(1, 31)])
        self.assertEqual(arrival_bound(MOST, 7, arrivals), 31 * LONGEST)
        self.assertEqual(arrival_run(30, 0, [(index, 1, index) for index in range(30)]), list(range(30)))
        self.assertEqual(arrival_run(30, 0, [(index, 1, index + 1) for index in range(30)]), list(range(30, 60)))

    def test_wrong_arrivals(self):
        for function in (arrival_run, arrival_ticks, arrival_bound):
            self.expect("InvalidArrivals", {"index": None}, function, 4, 0, LATE * 11)
            self.expect("InvalidArrivals", {"index": 2}, function, 4, 0, LATE[:2] + [(2, 1, LONGEST + 1), (4, 1, 0)])
            self.expect("InvalidArrivals", {"index": 0}, function, 4, 0, [(0, 2)])
            self.expect("InvalidMark", {}, function, 4, 4, [(0, 2)])
            self.expect("InvalidMarks", {}, function, 0, 4, [(0, 2)])


class BoundTest(unittest.TestCase):

    def test_small_rings_pass_by_pass(self):
        for marks, mark, arrivals in all_arrivals():
            self.assertEqual(arrival_bound(marks, mark, arrivals), bound_by_passes(marks, mark, arrivals),
                             (marks, mark, arrivals))

    def test_no_way_to_read_them_ends_earlier(self):
        for marks, mark, arrivals in list(all_arrivals())[::3]:
            self.assertLessEqual(arrival_bound(marks, mark, arrivals), arrival_ticks(marks, mark, arrivals))
            if len(arrivals) <= 5:
                self.assertLessEqual(arrival_bound(marks, mark, arrivals), hindsight(marks, mark, arrivals))

    def test_a_later_tick_can_tell_more(self):
        self.assertEqual(arrival_bound(4, 0, [(0, 4, 0), (3, 2, 100)]), 104)
        self.assertEqual(arrival_bound(4, 0, [(0, 4, 0), (3, 2, 103)]), 105)
        self.assertEqual(arrival_bound(4, 0, [(0, 400, 0), (3, 2, 103)]), 404)


class GameTest(RingTest):

    def turns(self):
        """All turns of the game on some rings."""
        for marks, many in product((3, 4, 7, MOST), range(1, 11)):
            for first in range(many + 1):
                for second in range(many + 1 - first):
                    yield marks, many, first, second

    def test_the_first_turn(self):
        for marks, many in product((3, 4, MOST), range(1, 11)):
            self.assertEqual(forcing_start(marks, many), [(0, 2, 0)] * many + [(1, 2, 0)] * many)

    def test_the_second_turn(self):
        for marks, many, first, second in self.turns():
            record = (2, 1) if first > second else (0, 1)
            self.assertEqual(forcing_more(marks, many, first, second), [(*record, many * marks)] * many)

    def test_the_ticks_that_are_forced(self):
        for marks, many, first, second in self.turns():
            ends = (many + 2 * many - first - 1) * marks + 1
            if first > second:
                ends = (many + 2 * many - second - 1) * marks + 3
            self.assertEqual(forced_ticks(marks, many, first, second), (ends, (2 * many - 1) * marks + 3))

    def test_in_hindsight(self):
        for marks, (many, first, second) in product((3, 4, 6), [(1, 0, 0), (1, 1, 0), (1, 0, 1), (2, 0, 2), (2, 2, 0)]):
            arrivals = forcing_start(marks, many) + forcing_more(marks, many, first, second)
            self.assertEqual(forced_ticks(marks, many, first, second)[1], hindsight(marks, 0, arrivals))

    def test_a_rule_that_begins_what_it_passes(self):
        for marks, many in product((3, 4, 7, MOST), range(1, 11)):
            start = forcing_start(marks, many)
            begun = [tick < many * marks for tick in arrival_run(marks, 0, start)]
            first, second = sum(begun[:many]), sum(begun[many:])
            self.assertEqual(first + second, many)
            arrivals = start + forcing_more(marks, many, first, second)
            self.assertEqual(arrival_run(marks, 0, arrivals)[:many], arrival_run(marks, 0, start)[:many])
            self.assertGreaterEqual(arrival_ticks(marks, 0, arrivals), forced_ticks(marks, many, first, second)[0])

    def test_the_border_of_what_is_impossible(self):
        for many in range(1, 11):
            for first in range(many + 1):
                self.assertEqual(len(forcing_more(3, many, first, many - first)), many)
                for function in (forcing_more, forced_ticks):
                    self.expect("Impossible", {}, function, 3, many, first, many - first + 1)
                    self.expect("Impossible", {}, function, 3, many, many - first + 1, first)
        for function in (forcing_more, forced_ticks):
            self.expect("Impossible", {}, function, 3, 1, 10 ** 99, 0)
            self.expect("Impossible", {}, function, MOST, 10, 0, 11)

    def test_rings_of_less_than_3_marks(self):
        for marks in (1, 2):
            for many in (1, 10):
                self.expect("Impossible", {}, forcing_start, marks, many)
                self.expect("Impossible", {}, forcing_more, marks, many, 0, 1)
                self.expect("Impossible", {}, forced_ticks, marks, many, 0, 1)
                self.expect("Impossible", {}, forced_ticks, marks, many, 10, 10)

    def test_errors_of_parameters_come_first(self):
        for marks in (1, 2, 3):
            for many in (0, -1, 11, True, None, "1", [1]):
                self.expect("InvalidNumber", {}, forcing_start, marks, many)
                self.expect("InvalidNumber", {}, forcing_more, marks, many, 10, 10)
                self.expect("InvalidNumber", {}, forced_ticks, marks, many, 10, 10)
            for wrong in (-1, True, None, "1", [1]):
                for function in (forcing_more, forced_ticks):
                    self.expect("InvalidNumber", {}, function, marks, 1, wrong, 10)
                    self.expect("InvalidNumber", {}, function, marks, 1, 10, wrong)
        for marks in (0, -1, MOST + 1, True, None):
            self.expect("InvalidMarks", {}, forcing_start, marks, 0)
            self.expect("InvalidMarks", {}, forcing_more, marks, 0, -1, -1)
            self.expect("InvalidMarks", {}, forced_ticks, marks, 11, 10, 10)

    def test_lists_are_new(self):
        self.assertIsNot(forcing_start(3, 1), forcing_start(3, 1))
        self.assertIsNot(forcing_more(3, 1, 0, 0), forcing_more(3, 1, 0, 0))


if __name__ == "__main__":
    unittest.main()
