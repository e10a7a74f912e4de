"""Point [25]: where the head is after very many laps."""

import unittest
from itertools import chain
from random import Random

from ringreads.far import at_tick, begin_tick
from ringreads.orders import lap_rounds
from tests.support import THREE, RingTest
from tests.walks import LONGEST, MOST, great_rings, laps_of, mixed_rings, small_rings

LAST = 10 ** 64 - 1


def all_laps():
    """Laps of small rings and of mixed ones."""
    chance = Random(70)
    for marks, records in chain(list(small_rings())[::5], mixed_rings(60, 4, 71), mixed_rings(20, 5, 72)):
        laps = laps_of(records)
        for order in chance.sample(laps, min(len(laps), 3)):
            yield marks, records, order


def read_thrice(marks, records, order):
    """What at_tick tells of each tick in which a lap is read three times over, and the ticks of the begins."""
    at, told, begun = records[0][0], [], {}
    for number in range(3):
        for index in order:
            begin, length = records[index]
            while at != begin:
                told.append(("wait", index, number))
                at = (at + 1) % marks
            begun[index, number] = len(told)
            told += [("read", index, number)] * length
            at = (at + length) % marks
    return told, begun


class WalkTest(unittest.TestCase):

    def test_a_lap_tick_by_tick(self):
        waits = 0
        for marks, records, order in all_laps():
            told, begun = read_thrice(marks, records, order)
            for tick, expected in enumerate(told):
                self.assertEqual(at_tick(marks, records, order, tick), expected, (marks, records, order, tick))
            for (index, number), tick in begun.items():
                self.assertEqual(begin_tick(marks, records, order, number, index), tick)
            waits += sum(expected[0] == "wait" for expected in told)
        self.assertGreater(waits, 1000)

    def test_the_same_after_many_laps(self):
        chance = Random(73)
        for marks, records, order in list(all_laps())[::9]:
            period = lap_rounds(marks, records, order) * marks
            for number in (1, 10 ** 20, MOST, (LAST - period) // period):
                tick = chance.randrange(period)
                kind, index, time = at_tick(marks, records, order, tick)
                self.assertEqual(at_tick(marks, records, order, tick + number * period), (kind, index, time + number))
                number = min(number, MOST)
                first = begin_tick(marks, records, order, 0, index)
                self.assertEqual(begin_tick(marks, records, order, number, index), first + number * period)

    def test_begins_of_great_rings(self):
        for marks, records in great_rings():
            for order in (list(range(30)), [0, *range(29, 0, -1)]):
                period = lap_rounds(marks, records, order) * marks
                for index in (0, 1, 15, 29):
                    for number in (0, 1, MOST):
                        tick = begin_tick(marks, records, order, number, index)
                        self.assertEqual((records[0][0] + tick) % marks, records[index][0])
                        self.assertEqual(tick // period, number)
                        self.assertEqual(at_tick(marks, records, order, tick), ("read", index, number))
                        end = tick + records[index][1]
                        self.assertEqual(at_tick(marks, records, order, end - 1), ("read", index, number))
                        after = order[(order.index(index) + 1) % 30]
                        kind, other, time = at_tick(marks, records, order, end)
                        self.assertEqual((other, time), (after, number + (after == 0)))
                        wait = (records[after][0] - records[index][0] - records[index][1]) % marks
                        self.assertEqual(kind, "wait" if wait else "read")


class EdgeTest(RingTest):

    def test_no_tick_of_waiting_where_no_wait_is(self):
        for tick in range(24):
            expected = [("read", 0), ("read", 0), ("read", 1), ("read", 1)][tick % 4]
            self.assertEqual(at_tick(4, [(0, 2), (2, 2)], [0, 1], tick), (*expected, tick // 4))

    def test_the_last_tick_of_a_record_and_the_first_one_behind_it(self):
        self.assertEqual([at_tick(4, THREE, [0, 2, 1], tick) for tick in (0, 1, 2, 3, 4, 5, 6, 7, 8)], [
            ("read", 0, 0), ("read", 0, 0), ("read", 2, 0), ("wait", 1, 0), ("wait", 1, 0), ("read", 1, 0),
            ("read", 1, 0), ("wait", 0, 1), ("read", 0, 1)])
        self.assertEqual([begin_tick(4, THREE, [0, 2, 1], 0, index) for index in range(3)], [0, 5, 2])

    def test_one_record(self):
        self.assertEqual(at_tick(1, [(0, 1)], [0], LAST), ("read", 0, LAST))
        self.assertEqual(begin_tick(1, [(0, 1)], [0], MOST, 0), MOST)
        self.assertEqual(begin_tick(1, [(0, LONGEST)], [0], MOST, 0), MOST * LONGEST)
        self.assertEqual(at_tick(1, [(0, LONGEST)], [0], LAST), ("read", 0, LAST // LONGEST))
        self.assertEqual(at_tick(MOST, [(7, 1)], [0], 0), ("read", 0, 0))
        self.assertEqual(at_tick(MOST, [(7, 1)], [0], 1), ("wait", 0, 1))
        self.assertEqual(at_tick(MOST, [(7, 1)], [0], MOST - 1), ("wait", 0, 1))
        self.assertEqual(at_tick(MOST, [(7, 1)], [0], MOST), ("read", 0, 1))
        self.assertEqual(at_tick(MOST, [(7, 1)], [0], LAST), ("wait", 0, 10 ** 34))
        self.assertEqual(begin_tick(MOST, [(7, LONGEST)], [0], MOST, 0), MOST * LONGEST)
        self.assertEqual(begin_tick(MOST, [(7, LONGEST - 1)], [0], MOST, 0), MOST * LONGEST)

    def test_a_record_that_is_longer_than_the_ring(self):
        self.assertEqual([at_tick(2, [(0, 5), (0, 2)], [0, 1], tick) for tick in (4, 5, 6, 7, 8)], [
            ("read", 0, 0), ("wait", 1, 0), ("read", 1, 0), ("read", 1, 0), ("read", 0, 1)])

    def test_the_border_of_what_is_a_number(self):
        for marks in (4, MOST):
            self.assertEqual(at_tick(marks, THREE, [0, 1, 2], 0), ("read", 0, 0))
            self.assertEqual(at_tick(marks, THREE, [0, 1, 2], LAST)[0], "wait")
            self.expect("InvalidNumber", {}, at_tick, marks, THREE, [0, 1, 2], LAST + 1)
            self.expect("InvalidNumber", {}, at_tick, marks, THREE, [0, 1, 2], -1)
            for number, index in ((MOST + 1, 0), (-1, 0), (MOST, 3), (MOST, -1), (0, True), (False, 0)):
                self.expect("InvalidNumber", {}, begin_tick, marks, THREE, [0, 1, 2], number, index)

    def test_a_trip_is_no_lap(self):
        for function, more in ((at_tick, [0]), (begin_tick, [0, 0]), (at_tick, [-1]), (begin_tick, [-1, 3])):
            self.expect("InvalidOrder", {"index": 0}, function, 4, THREE, [1, 0, 2], *more)
            self.expect("InvalidOrder", {"index": 2}, function, 4, THREE, [0, 1, 1], *more)
            self.expect("InvalidOrder", {"index": None}, function, 4, THREE, [0, 1], *more)
            self.expect("InvalidRecords", {"index": 0}, function, 4, [(4, 1)], [1], *more)


if __name__ == "__main__":
    unittest.main()
