"""The facts of points [6] to [9], and what all modules together tell of one ring."""

import unittest
from itertools import chain
from random import Random

from ringreads import arrivals, changes, counting, far, heads, layouts, orders, rings, rounds, rules, small, trips
from ringreads import windows
from ringreads.console import Console
from ringreads.drums import CountingDrum, Drum, ListedDrum
from ringreads.texts import format_numbers, format_records, parse_records, parse_trip
from tests.walks import LONGEST, MOST, great_rings, mixed_rings, small_rings

PASSING = ("nearest", "longest", "shortest")


def small_lists():
    """Records of which all laps can be listed."""
    return chain(list(small_rings())[::15], mixed_rings(50, 5, 130), mixed_rings(20, 6, 131), mixed_rings(6, 7, 132))


def many_lists():
    """Up to thirty records on small rings and on great ones."""
    return chain(list(small_rings())[::15], *[mixed_rings(12, many, 133 + many) for many in (2, 3, 6, 12, 30)],
                 great_rings())


def marks_of(marks, records):
    """Some marks of a ring, among them such at which records begin and end."""
    return sorted({0, marks - 1, records[0][0], rings.ends_of(marks, records)[-1]})


class RoundsTest(unittest.TestCase):

    def test_the_fewest_rounds_by_covers_and_parts(self):
        more = 0
        for marks, records in many_lists():
            most = rings.most_cover(marks, records)
            found = rounds.parts(marks, records)
            fewest = rounds.fewest_rounds(marks, records)
            self.assertEqual(fewest, most if len(found) == 1 else most + 1)
            covers = [rings.cover_at(marks, records, mark) for mark, _ in rings.covers(marks, records)]
            self.assertEqual(max(covers), most)
            self.assertEqual(sorted(index for part in found for index in part), list(range(len(records))))
            more += fewest > most
        self.assertGreater(more, 10)

    def test_a_lap_or_a_paper(self):
        for marks, records in many_lists():
            fewest = rounds.fewest_rounds(marks, records)
            lap = rounds.least_lap(marks, records)
            self.assertTrue(orders.is_lap(marks, records, lap))
            self.assertEqual(orders.lap_rounds(marks, records, lap), fewest)
            for many in (fewest - 1, max(0, fewest - 2), 0):
                paper = rounds.refusal(marks, records, many)
                self.assertTrue(rounds.shows_refusal(marks, records, many, paper))
                self.assertFalse(rounds.shows_refusal(marks, records, fewest, paper))
            for many in (fewest, fewest + 1, 10 ** 45):
                self.assertIsNone(rounds.refusal(marks, records, many))

    def test_all_laps_beside_the_other_modules(self):
        for marks, records in small_lists():
            (fewest, many), *_ = small.lap_table(marks, records)
            self.assertEqual([rounds.fewest_rounds(marks, records), counting.lap_count(marks, records)], [fewest, many])
            laps = [counting.nth_lap(marks, records, index) for index in range(min(many, 30))]
            self.assertEqual(laps[0], rounds.least_lap(marks, records))
            self.assertEqual(laps, sorted(laps))
            for index, lap in enumerate(laps):
                self.assertEqual(orders.lap_rounds(marks, records, lap), fewest)
                self.assertEqual(counting.lap_index(marks, records, lap), index)
            everything = list(range(len(records)))
            self.assertEqual(small.most_kept(marks, records, fewest), everything)
            self.assertNotEqual(small.most_kept(marks, records, fewest - 1), everything)

    def test_laps_that_are_followed(self):
        for marks, records in chain(mixed_rings(20, 5, 134), mixed_rings(6, 12, 135), list(great_rings())[::5]):
            many = counting.lap_count(marks, records)
            may, must = counting.may_follow(marks, records), counting.must_follow(marks, records)
            for first in range(min(len(records), 6)):
                counts = [0 if first == second else counting.follow_count(marks, records, first, second)
                          for second in range(len(records))]
                self.assertEqual(sum(counts), many)
                self.assertEqual([pair for pair in may if pair[0] == first],
                                 [(first, second) for second, count in enumerate(counts) if count > 0])
                self.assertEqual([pair for pair in must if pair[0] == first],
                                 [(first, second) for second, count in enumerate(counts) if count == many])
            lap = rounds.least_lap(marks, records)
            self.assertTrue(set(must) <= set(zip(lap, lap[1:] + lap[:1])) <= set(may))

    def test_rings_that_are_moved_mirrored_and_multiplied(self):
        for marks, records in many_lists():
            fewest = rounds.fewest_rounds(marks, records)
            others = [(marks, rings.moved(marks, records, 10 ** 45 - 1)), (marks, rings.mirrored(marks, records))]
            if marks < 10 and max(length for _, length in records) <= LONGEST // 7:
                others.append((7 * marks, rings.multiplied(marks, records, 7)))
            for size, other in others:
                self.assertEqual(rounds.fewest_rounds(size, other), fewest)
                self.assertEqual(counting.lap_count(size, other), counting.lap_count(marks, records))
            lap = rounds.least_lap(marks, records)
            self.assertEqual(orders.lap_rounds(*others[0], lap), fewest)
            self.assertEqual(orders.lap_rounds(*others[1], orders.mirrored_lap(marks, records, lap)), fewest)


class TripsTest(unittest.TestCase):

    def test_the_fewest_ticks_by_a_record_that_leads_back(self):
        for marks, records in many_lists():
            if len(records) == 30:
                # With a record more there would be too many.
                records = records[:29]
            for mark in marks_of(marks, records):
                bounds = trips.trip_bounds(marks, records, mark)
                self.assertEqual([end for end, _, _ in bounds], sorted(set(rings.ends_of(marks, records))))
                for end, most, ticks in bounds:
                    back = (mark - end) % marks
                    self.assertEqual(most, rounds.fewest_rounds(marks, records + [(end, back)] * (back > 0)))
                    self.assertEqual(ticks, most * marks - back)
                self.assertEqual(trips.fewest_ticks(marks, records, mark), min(ticks for _, _, ticks in bounds))

    def test_trips_beside_the_other_modules(self):
        for marks, records in many_lists():
            for mark in marks_of(marks, records):
                fewest = trips.fewest_ticks(marks, records, mark)
                trip = trips.least_trip(marks, records, mark)
                self.assertTrue(orders.is_trip(marks, records, trip))
                self.assertEqual(orders.trip_ticks(marks, records, mark, trip), fewest)
                self.assertLessEqual(heads.pieces_ticks(marks, records, [mark]), fewest)
                for rule in (*PASSING, "listed", "brief"):
                    self.assertLessEqual(fewest, rules.rule_ticks(marks, records, mark, rule))

    def test_all_trips_beside_the_other_modules(self):
        for marks, records in small_lists():
            for mark in marks_of(marks, records)[:2]:
                (fewest, many), *_ = table = small.trip_table(marks, records, mark)
                self.assertEqual([trips.fewest_ticks(marks, records, mark), trips.trip_count(marks, records, mark)],
                                 [fewest, many])
                for rule in (*PASSING, "listed", "brief"):
                    self.assertIn(rules.rule_ticks(marks, records, mark, rule), [ticks for ticks, _ in table])
                if len(records) <= 5:
                    self.assertEqual(small.whole_ticks(marks, records, [mark]), fewest)
                if len(records) <= 6:
                    late = [(begin, length, 0) for begin, length in records]
                    self.assertEqual(small.hindsight_ticks(marks, mark, late), fewest)

    def test_best_begins(self):
        for marks, records in many_lists():
            ticks = {begin: trips.fewest_ticks(marks, records, begin) for begin, _ in records}
            best = [begin for begin in sorted(ticks) if ticks[begin] == min(ticks.values())]
            self.assertEqual(trips.best_begins(marks, records), best)


class ChangesTest(unittest.TestCase):

    def test_what_changes_cost(self):
        chance = Random(136)
        for marks, records in many_lists():
            fewest = rounds.fewest_rounds(marks, records)
            for index in {0, len(records) - 1}:
                begin, length = records[index]
                longest = changes.longest_length(marks, records, index)
                self.assertGreaterEqual(longest, length)
                for other, same in [(longest, True), (chance.randint(length, longest), True), (longest + 1, False)]:
                    if other <= LONGEST:
                        longer = records[:index] + [(begin, other)] + records[index + 1:]
                        self.assertEqual(rounds.fewest_rounds(marks, longer) == fewest, same)
                rest = records[:index] + records[index + 1:]
                saved = changes.saved_rounds(marks, records, index)
                self.assertEqual(saved, fewest - (rounds.fewest_rounds(marks, rest) if rest else 0))
                self.assertGreaterEqual(saved, 0)
                if rest:
                    self.assertEqual(changes.added_rounds(marks, rest, records[index]), saved)
                if length > 1:
                    cut = chance.randint(1, length - 1)
                    self.assertGreaterEqual(changes.cut_saves(marks, records, index, cut), 0)

    def test_a_further_record(self):
        chance = Random(137)
        for marks, records in many_lists():
            for mark in marks_of(marks, records)[:3]:
                gap = changes.gap_at(marks, records, mark)
                if gap > 0:
                    self.assertEqual(changes.added_rounds(marks, records, (mark, gap)), 0)
                if gap < LONGEST:
                    self.assertGreater(changes.added_rounds(marks, records, (mark, gap + 1)), 0)
                for length in {1, marks, chance.randint(1, marks)}:
                    self.assertIn(changes.added_rounds(marks, records, (mark, length)), (0, 1, 2))


class RulesTest(unittest.TestCase):

    def test_rules_end_less_than_their_last_record_later(self):
        for marks, records in many_lists():
            for mark in marks_of(marks, records):
                pieces = heads.pieces_ticks(marks, records, [mark])
                for rule in PASSING:
                    last = rules.rule_trip(marks, records, mark, rule)[-1]
                    self.assertLess(rules.rule_ticks(marks, records, mark, rule) - records[last][1], pieces)

    def test_with_any_number_of_heads(self):
        chance = Random(138)
        for marks, records in many_lists():
            for many in (1, 2, 6):
                places = [chance.randrange(marks) for _ in range(many)]
                run = heads.heads_run(marks, records, places)
                ends = [tick + length for (_, tick), (_, length) in zip(run, records)]
                self.assertEqual(heads.heads_ticks(marks, records, places), max(ends))
                last = max(length for end, (_, length) in zip(ends, records) if end == max(ends))
                self.assertLess(max(ends) - last, heads.pieces_ticks(marks, records, places))

    def test_one_head_many_names(self):
        for marks, records in many_lists():
            for mark in marks_of(marks, records)[:2]:
                run = [tick for _, tick in heads.heads_run(marks, records, [mark])]
                trip = rules.rule_trip(marks, records, mark, "nearest")
                begins = orders.trip_begins(marks, records, mark, trip)
                self.assertEqual([run[index] for index in trip], begins)
                late = [(begin, length, 0) for begin, length in records]
                self.assertEqual(arrivals.arrival_run(marks, mark, late), run)
                for kind, begun in ((Drum, run), (CountingDrum, run), (ListedDrum, None)):
                    drum = kind(marks, mark)
                    for begin, length in records:
                        drum.add(begin, length)
                    while drum.waiting:
                        drum.go(LONGEST)
                    begun = begun or orders.trip_begins(marks, records, mark, list(range(len(records))))
                    self.assertEqual([drum.begin_of(number) for number in range(len(records))], begun)


class FarTest(unittest.TestCase):

    def test_a_lap_is_the_same_as_a_trip_from_its_begin(self):
        for marks, records in many_lists():
            lap = rounds.least_lap(marks, records)
            begins = orders.trip_begins(marks, records, records[0][0], lap)
            period = rounds.fewest_rounds(marks, records) * marks
            for at in range(0, len(lap), 5):
                self.assertEqual(far.begin_tick(marks, records, lap, 0, lap[at]), begins[at])
                self.assertEqual(far.begin_tick(marks, records, lap, MOST, lap[at]), begins[at] + MOST * period)
            end = orders.trip_ticks(marks, records, records[0][0], lap)
            waits = orders.lap_waits(marks, records, lap)
            self.assertEqual(end + waits[-1], period)
            if waits[-1]:
                self.assertEqual(far.at_tick(marks, records, lap, end), ("wait", 0, 1))


class LayoutsTest(unittest.TestCase):

    def test_blocks_as_records_with_their_reckonings(self):
        for blocks in range(1, 31):
            for reckoning in (*range(blocks + 2), 3 * blocks - 1, MOST):
                records = [(layouts.place_of(blocks, reckoning, block), reckoning + 1) for block in range(blocks)]
                lap = list(range(blocks))
                fewest = orders.lap_rounds(blocks, records, lap)
                self.assertEqual(fewest, layouts.layout_rounds(blocks, reckoning))
                self.assertEqual(orders.trip_ticks(blocks, records, 0, lap),
                                 layouts.layout_ticks(blocks, reckoning) + reckoning)
                self.assertLessEqual(rounds.fewest_rounds(blocks, records), fewest)


class WindowsTest(unittest.TestCase):

    def test_pieces_are_windows_of_single_arcs(self):
        chance = Random(139)
        for marks in (1, 2, 5, 12, MOST):
            for many in (1, 4, 30):
                for count in (1, 3, 6):
                    places = [chance.randrange(marks) for _ in range(count)]
                    chosen = [chance.randrange(marks) for _ in range(5)]
                    records = [(chance.choice(chosen), 1) for _ in range(many)]
                    ticks = heads.pieces_ticks(marks, records, places)
                    if ticks > LONGEST:
                        continue
                    wide = [(mark, 0, ticks - 1) for mark, _ in records]
                    self.assertIsNone(windows.jam(marks, places, wide))
                    self.assertEqual(max(windows.window_ticks(marks, places, wide)), ticks - 1)
                    if ticks > 1:
                        narrow = [(mark, 0, ticks - 2) for mark, _ in records]
                        self.assertIsNone(windows.window_ticks(marks, places, narrow))
                        self.assertIsNotNone(windows.jam(marks, places, narrow))


class TextsTest(unittest.TestCase):

    def test_texts_and_the_console_tell_the_same(self):
        for marks, records in many_lists():
            text = format_records(marks, records)
            self.assertEqual(parse_records(marks, text), records)
            console = Console()
            console.execute(f"ring {marks}")
            console.execute("records " + text)
            for mark in marks_of(marks, records)[:2]:
                console.execute(f"mark {mark}")
                trip = parse_trip(marks, records, console.execute("trip"))
                self.assertEqual(str(orders.trip_ticks(marks, records, mark, trip)), console.execute("ticks"))
                self.assertEqual(console.execute("rule listed"), format_numbers(list(range(len(records)))))
            lap = parse_trip(marks, records, console.execute("lap"))
            self.assertEqual(str(orders.lap_rounds(marks, records, lap)), console.execute("rounds"))
            self.assertEqual(console.execute("parts") == "1",
                             console.execute("rounds") == str(rings.most_cover(marks, records)))


if __name__ == "__main__":
    unittest.main()
