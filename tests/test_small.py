"""Point [27]: what few records let us tell by all their laps, trips and choices."""

import unittest
from itertools import combinations, permutations, product
from random import Random

from ringreads.arrivals import arrival_bound, arrival_ticks
from ringreads.counting import lap_count
from ringreads.heads import heads_ticks, pieces_ticks
from ringreads.rounds import fewest_rounds
from ringreads.small import hindsight_ticks, lap_table, most_kept, trip_table, whole_ticks
from ringreads.trips import fewest_ticks, trip_count
from tests.support import APART, LATE, THREE, RingTest
from tests.walks import LONGEST, MOST, fewest_laps, laps_of, mixed_rings, read, rounds_of, small_rings

# How many records, heads and arrivals are few enough.
TABLED, KEPT, DEALT, HEADS, COMING = 7, 10, 5, 3, 6


def tallied(numbers):
    """The ascending tuples (number, how often it is there)."""
    return [(number, numbers.count(number)) for number in sorted(set(numbers))]


def some_rings():
    """Small rings and mixed ones of up to five records."""
    yield from list(small_rings())[::9]
    for many in (2, 3, 4, 5):
        yield from mixed_rings(60 if many < 5 else 20, many, 90 + many)


def great_lists(many):
    """Lists of so many records of great lengths on great rings, and such of least ones."""
    chance = Random(many)
    yield 1, [(0, 1)] * many
    yield 1, [(0, LONGEST - index) for index in range(many)]
    yield MOST, [(7, MOST)] * many
    yield MOST, [(MOST - 1, LONGEST)] * many
    for longest in (1, MOST // 3, MOST, LONGEST):
        yield MOST, [(chance.randrange(MOST), chance.randint(1, longest)) for _ in range(many)]


class TableTest(RingTest):

    def test_all_laps(self):
        for marks, records in some_rings():
            found = [rounds_of(marks, records, lap) for lap in laps_of(records)]
            self.assertEqual(lap_table(marks, records), tallied(found), (marks, records))

    def test_all_trips(self):
        for marks, records in some_rings():
            for mark in {0, marks // 2, marks - 1}:
                found = [read(marks, records, mark, trip)[1] for trip in permutations(range(len(records)))]
                self.assertEqual(trip_table(marks, records, mark), tallied(found), (marks, records, mark))

    def test_seven_records_beside_the_other_modules(self):
        for marks, records in [*mixed_rings(12, TABLED, 97), *great_lists(TABLED)]:
            table = lap_table(marks, records)
            self.assertEqual(sum(many for _, many in table), 720)
            self.assertEqual(table[0], (fewest_rounds(marks, records), lap_count(marks, records)))
            for mark in {0, records[0][0], marks - 1}:
                table = trip_table(marks, records, mark)
                self.assertEqual(sum(many for _, many in table), 5040)
                self.assertEqual(table[0], (fewest_ticks(marks, records, mark), trip_count(marks, records, mark)))
                self.assertEqual(table, sorted(set(table)))

    def test_one_record(self):
        for marks, length, rounds in [(1, 1, 1), (1, LONGEST, LONGEST), (4, 5, 2), (MOST, 1, 1), (MOST, LONGEST, 10)]:
            self.assertEqual(lap_table(marks, [(marks - 1, length)]), [(rounds, 1)])
            self.assertEqual(trip_table(marks, [(marks - 1, length)], marks - 1), [(length, 1)])
            self.assertEqual(trip_table(marks, [(marks - 1, length)], 0), [(marks - 1 + length, 1)])

    def test_too_large(self):
        records = [(index % 4, 1) for index in range(30)]
        for many in range(1, 31):
            if many <= TABLED:
                self.assertTrue(lap_table(4, records[:many]))
                self.assertTrue(trip_table(4, records[:many], 3))
            else:
                self.expect("TooLarge", {"limit": TABLED}, lap_table, 4, records[:many])
                self.expect("TooLarge", {"limit": TABLED}, trip_table, 4, records[:many], 3)
        # Behind the errors of the parameters.
        self.expect("InvalidMark", {}, trip_table, 4, records[:8], 4)
        self.expect("InvalidMark", {}, trip_table, 4, records[:8], True)
        self.expect("InvalidRecords", {"index": 8}, lap_table, 4, records[:8] + [(4, 1)])
        self.expect("InvalidRecords", {"index": None}, trip_table, 4, records + [(0, 1)], 4)


class KeptTest(RingTest):

    def test_all_lists_of_indices(self):
        for marks, records in some_rings():
            rounds = {}
            for many in range(1, len(records) + 1):
                for kept in combinations(range(len(records)), many):
                    rounds[kept] = fewest_laps(marks, [records[index] for index in kept])[0]
            for most in range(max(rounds.values()) + 2):
                good = [kept for kept in rounds if rounds[kept] <= most]
                longest = max([len(kept) for kept in good], default=0)
                expected = min([list(kept) for kept in good if len(kept) == longest], default=[])
                self.assertEqual(most_kept(marks, records, most), expected, (marks, records, most))

    def test_ten_records(self):
        for marks, records in [*mixed_rings(4, KEPT, 98), *great_lists(KEPT)]:
            most = fewest_rounds(marks, records)
            self.assertEqual(most_kept(marks, records, most), list(range(KEPT)))
            self.assertEqual(most_kept(marks, records, most + 10 ** 45), list(range(KEPT)))
            self.assertEqual(most_kept(marks, records, 0), [])
            kept = most_kept(marks, records, most - 1)
            self.assertLess(len(kept), KEPT)
            self.assertTrue(kept == [] or fewest_rounds(marks, [records[index] for index in kept]) <= most - 1)

    def test_the_least_of_several(self):
        self.assertEqual(most_kept(2, APART, 1), [0])
        self.assertEqual(most_kept(4, [(0, 5), (1, 4), (1, 2), (3, 2)], 1), [2, 3])
        self.assertEqual(most_kept(4, [(0, 5), (1, 4), (1, 2), (3, 3)], 1), [1])
        self.assertEqual(most_kept(4, [(0, 5), (0, 9), (1, 1)], 1), [2])
        self.assertEqual(most_kept(4, [(0, 5), (0, 9)], 1), [])
        self.assertEqual(most_kept(4, [(0, 4)] * 10, 3), [0, 1, 2])

    def test_too_large(self):
        for many in range(1, 31):
            if many <= KEPT:
                self.assertEqual(most_kept(1, [(0, 1)] * many, 2), list(range(min(many, 2))))
            else:
                self.expect("TooLarge", {"limit": KEPT}, most_kept, 1, [(0, 1)] * many, 2)
                self.expect("InvalidNumber", {}, most_kept, 1, [(0, 1)] * many, -1)
        self.expect("InvalidRecords", {"index": 11}, most_kept, 1, [(0, 1)] * 11 + [(1, 1)], -1)

    def test_lists_are_new(self):
        most_kept(1, [(0, 1)], 1).append(7)
        self.assertEqual(most_kept(1, [(0, 1)], 1), [0])
        most_kept(1, [(0, 1)], 0).append(7)
        self.assertEqual(most_kept(1, [(0, 1)], 0), [])


class WholeTest(RingTest):

    def dealt(self, marks, records, heads):
        """The fewest ticks, by all ways to deal the records to the heads and all sequences at each."""
        fewest = {}
        for head in heads:
            for many in range(len(records) + 1):
                for order in permutations(range(len(records)), many):
                    ticks = read(marks, records, head, order)[1]
                    key = head, tuple(sorted(order))
                    fewest[key] = min(ticks, fewest.get(key, ticks))
        deals = product(range(len(heads)), repeat=len(records))
        return min(max(fewest[heads[at], tuple(index for index, to in enumerate(deal) if to == at)]
                       for at in range(len(heads))) for deal in deals)

    def test_all_ways_to_deal_the_records(self):
        chance = Random(91)
        for marks, records in list(some_rings())[::3] + list(mixed_rings(8, DEALT, 92)):
            heads = [chance.randrange(marks) for _ in range(HEADS)]
            for many in range(1, HEADS + 1):
                self.assertEqual(whole_ticks(marks, records, heads[:many]), self.dealt(marks, records, heads[:many]),
                                 (marks, records, heads[:many]))

    def test_beside_the_other_modules(self):
        chance = Random(93)
        for marks, records in [*some_rings(), *great_lists(DEALT)]:
            heads = [chance.randrange(marks) for _ in range(HEADS)]
            self.assertEqual(whole_ticks(marks, records, heads[:1]), fewest_ticks(marks, records, heads[0]))
            for many in range(1, HEADS + 1):
                ticks = whole_ticks(marks, records, heads[:many])
                self.assertLessEqual(pieces_ticks(marks, records, heads[:many]), ticks)
                self.assertLessEqual(ticks, heads_ticks(marks, records, heads[:many]))

    def test_heads_without_a_record(self):
        self.assertEqual(whole_ticks(4, [(1, 3)], [2, 1, 3]), 3)
        self.assertEqual(whole_ticks(4, [(1, 3)], [2, 2]), 6)
        self.assertEqual(whole_ticks(MOST, [(0, LONGEST)], [1]), LONGEST + MOST - 1)
        self.assertEqual(whole_ticks(MOST, [(0, LONGEST)], [1, 0, 1]), LONGEST)
        self.assertEqual(whole_ticks(MOST, [(0, LONGEST)] * 5, [0, 0, 0]), 2 * LONGEST)

    def test_too_large(self):
        for records, heads in product(range(1, 31), range(1, 7)):
            arguments = (4, [(1, 1)] * records, [0] * heads)
            if records > DEALT:
                self.expect("TooLarge", {"limit": DEALT}, whole_ticks, *arguments)
            elif heads > HEADS:
                self.expect("TooLarge", {"limit": HEADS}, whole_ticks, *arguments)
            else:
                self.assertEqual(whole_ticks(*arguments), 2 + 4 * ((records - 1) // heads))
        self.expect("InvalidHeads", {"index": None}, whole_ticks, 4, [(1, 1)] * 6, [0] * 7)
        self.expect("InvalidHeads", {"index": 3}, whole_ticks, 4, [(1, 1)] * 6, [0, 0, 0, 4])


class HindsightTest(RingTest):

    def read_late(self, marks, mark, arrivals):
        """The tick of the last end if arrivals are read in their sequence, tick by tick."""
        tick = 0
        for begin, length, come in arrivals:
            while tick < come or (mark + tick) % marks != begin:
                tick += 1
            tick += length
        return tick

    def coming(self, times, many, seed):
        """So many arrivals on small rings, each with a mark."""
        chance = Random(seed)
        for _ in range(times):
            marks = chance.randint(1, 8)
            latest = chance.choice([0, marks, 4 * marks, 12 * marks])
            longest = chance.choice([1, marks, 2 * marks])
            yield marks, chance.randrange(marks), [
                (chance.randrange(marks), chance.randint(1, longest), chance.randint(0, latest)) for _ in range(many)]

    def test_all_sequences(self):
        better = 0
        for many in range(1, COMING + 1):
            for marks, mark, arrivals in self.coming(10 if many == COMING else 500 // many, many, 94 + many):
                fewest = min(self.read_late(marks, mark, order) for order in permutations(arrivals))
                self.assertEqual(hindsight_ticks(marks, mark, arrivals), fewest, (marks, mark, arrivals))
                better += fewest < arrival_ticks(marks, mark, arrivals)
                self.assertLessEqual(arrival_bound(marks, mark, arrivals), fewest)
        self.assertGreater(better, 50)

    def test_waiting_is_better_than_beginning(self):
        # The record 0 can be begun at once, but the record 1 fits ahead of it if the head waits for that one.
        for come, begun, late in [(0, 10, 12), (1, 10, 12), (2, 12, 12), (9, 12, 12), (10, 16, 16)]:
            self.assertEqual(hindsight_ticks(4, 0, [(0, 6, 0), (1, 3, come)]), begun)
            self.assertEqual(arrival_ticks(4, 0, [(0, 6, 0), (1, 3, come)]), late)
        self.assertEqual(hindsight_ticks(4, 0, LATE), 7)
        self.assertEqual(arrival_ticks(4, 0, LATE), 11)

    def test_arrivals_at_tick_0_are_records(self):
        for marks, records in some_rings():
            arrivals = [(begin, length, 0) for begin, length in records]
            self.assertEqual(hindsight_ticks(marks, 0, arrivals), fewest_ticks(marks, records, 0))

    def test_great_arrivals(self):
        self.assertEqual(hindsight_ticks(1, 0, [(0, LONGEST, LONGEST)]), 2 * LONGEST)
        self.assertEqual(hindsight_ticks(MOST, 1, [(0, LONGEST, LONGEST)]), 2 * LONGEST + MOST - 1)
        self.assertEqual(hindsight_ticks(MOST, 0, [(0, LONGEST, LONGEST)] * COMING), 7 * LONGEST)
        for marks, records in great_lists(COMING):
            for come in (0, MOST // 2, LONGEST):
                arrivals = [(begin, length, index * come // 5) for index, (begin, length) in enumerate(records)]
                ticks = hindsight_ticks(marks, marks - 1, arrivals)
                self.assertLessEqual(arrival_bound(marks, marks - 1, arrivals), ticks)
                self.assertLessEqual(ticks, arrival_ticks(marks, marks - 1, arrivals))

    def test_too_large(self):
        for many in range(1, 31):
            arrivals = [(1, 1, 2)] * many
            if many <= COMING:
                self.assertEqual(hindsight_ticks(4, 0, arrivals), 2 + 4 * many)
            else:
                self.expect("TooLarge", {"limit": COMING}, hindsight_ticks, 4, 0, arrivals)
                self.expect("InvalidArrivals", {"index": many - 1}, hindsight_ticks, 4, 0, arrivals[1:] + [(4, 1, 2)])
                self.expect("InvalidMark", {}, hindsight_ticks, 4, 4, arrivals)


class ThreeTest(unittest.TestCase):

    def test_the_records_of_the_document(self):
        self.assertEqual(lap_table(4, THREE), [(2, 1), (3, 1)])
        self.assertEqual(lap_table(2, APART), [(3, 1)])
        self.assertEqual(trip_table(2, APART, 0), [(5, 1), (6, 1)])


if __name__ == "__main__":
    unittest.main()
