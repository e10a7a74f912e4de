"""Points [11] and [26]: records of length 1 that are to be read in windows of ticks, and jams."""

import unittest
from itertools import product
from random import Random

from ringreads.windows import jam, shows_jam, shows_ticks, window_ticks
from tests.support import ANY_VALUES, HUGE, RingTest
from tests.walks import LONGEST, MOST


def small_windows(times, seed):
    """Heads and windows on small rings."""
    chance = Random(seed)
    for _ in range(times):
        marks = chance.randint(1, 5)
        heads = [chance.randrange(marks) for _ in range(chance.choice([1, 1, 2, 3]))]
        used = [chance.randrange(marks) for _ in range(chance.choice([1, 1, 2]))]
        windows = []
        for _ in range(chance.randint(1, 4)):
            first = chance.randrange(9)
            windows.append((chance.choice(used), first, first + chance.choice([0, 0, 1, 2, 3, 5])))
        yield marks, heads, windows


def great_windows():
    """Thirty windows of many kinds on rings of one mark and of many, with heads."""
    chance = Random(82)
    for marks in (1, 2, 3, 10, 10 ** 15, MOST):
        for many in (1, 2, 6):
            for width in (0, 1, marks, 3 * marks, 12 * marks, 30 * marks):
                for spread in (0, marks, 20 * marks):
                    heads = [chance.randrange(marks) for _ in range(many)]
                    used = [chance.randrange(marks) for _ in range(chance.choice([1, 2, 5]))]
                    windows = []
                    for _ in range(30):
                        first = min(chance.randint(0, spread), LONGEST)
                        windows.append((chance.choice(used), first, min(first + chance.randint(0, width), LONGEST)))
                    yield marks, heads, windows
                    if marks < 10:
                        yield marks, heads, [(mark, first, LONGEST) for mark, first, _ in windows]


def heads_at(marks, heads, mark, tick):
    """How many heads are at a mark at a tick."""
    return sum((head + tick) % marks == mark for head in heads)


def good_ticks(marks, heads, windows, ticks):
    """Whether integers are ticks as the document puts it."""
    if any(tick not in range(first, last + 1) for tick, (_, first, last) in zip(ticks, windows)):
        return False
    read = [(mark, tick) for tick, (mark, _, _) in zip(ticks, windows)]
    return all(read.count((mark, tick)) <= heads_at(marks, heads, mark, tick) for mark, tick in read)


def good_jam(marks, heads, windows, mark, first, last):
    """Whether a mark of the ring and ticks from 0 on are a jam as the document puts it, counted tick by tick."""
    within = sum(other == mark and first <= begin and end <= last for other, begin, end in windows)
    return within > sum(heads_at(marks, heads, mark, tick) for tick in range(first, last + 1))


def good_great_jam(marks, heads, windows, mark, first, last):
    """The same for great numbers: a head that comes to the mark comes again behind a round."""
    within = sum(other == mark and first <= begin and end <= last for other, begin, end in windows)
    passes = 0
    for head in heads:
        tick = (mark - head) % marks
        earlier = (first - tick + marks - 1) // marks if first > tick else 0
        until = (last - tick) // marks + 1 if last >= tick else 0
        passes += until - earlier
    return within > passes


class FoundTest(RingTest):

    def test_all_choices_of_small_windows(self):
        found = {True: 0, False: 0}
        for marks, heads, windows in small_windows(2500, 80):
            choices = product(*[range(first, last + 1) for _, first, last in windows])
            exists = any(good_ticks(marks, heads, windows, choice) for choice in choices)
            ticks, shown = window_ticks(marks, heads, windows), jam(marks, heads, windows)
            self.assertEqual((ticks is not None, shown is None), (exists, exists), (marks, heads, windows))
            if exists:
                self.assertEqual([type(ticks), len(ticks)], [list, len(windows)])
                self.assertTrue(good_ticks(marks, heads, windows, ticks))
                self.assertIs(shows_ticks(marks, heads, windows, ticks), True)
            else:
                self.assertIs(type(shown), tuple)
                self.assertTrue(good_jam(marks, heads, windows, *shown))
                self.assertIs(shows_jam(marks, heads, windows, shown), True)
            found[exists] += 1
        self.assertGreater(min(found.values()), 400)

    def test_thirty_windows(self):
        found = {True: 0, False: 0}
        for marks, heads, windows in great_windows():
            ticks, shown = window_ticks(marks, heads, windows), jam(marks, heads, windows)
            self.assertNotEqual(ticks is None, shown is None)
            if ticks is not None:
                self.assertTrue(good_ticks(marks, heads, windows, ticks))
                self.assertIs(shows_ticks(marks, heads, windows, ticks), True)
            else:
                self.assertTrue(good_great_jam(marks, heads, windows, *shown))
                self.assertIs(shows_jam(marks, heads, windows, shown), True)
            self.assertEqual(window_ticks(marks, heads, windows), ticks)
            self.assertEqual(jam(marks, heads, windows), shown)
            found[ticks is not None] += 1
        self.assertGreater(min(found.values()), 30)

    def test_the_judge_of_great_jams(self):
        for marks, heads, windows in list(small_windows(60, 81)):
            for mark, first, last in product(range(marks), range(15), range(15)):
                if first <= last:
                    self.assertEqual(good_great_jam(marks, heads, windows, mark, first, last),
                                     good_jam(marks, heads, windows, mark, first, last))

    def test_windows_of_one_tick(self):
        for marks, head, mark in ((1, 0, 0), (4, 0, 1), (4, 3, 1), (MOST, 7, 6)):
            tick = (mark - head) % marks
            self.assertEqual(window_ticks(marks, [head], [(mark, tick, tick)]), [tick])
            self.assertEqual(window_ticks(marks, [head], [(mark, tick + marks, tick + marks)]), [tick + marks])
            if marks > 1:
                for other in {tick - 1, tick + 1, tick + marks - 1} - {-1}:
                    self.assertIsNone(window_ticks(marks, [head], [(mark, other, other)]))
                    self.assertEqual(jam(marks, [head], [(mark, other, other)]), (mark, other, other))

    def test_windows_that_begin_or_end_as_a_head_passes(self):
        # The head passes the mark 1 at the ticks 1, 5 and 9.
        for first, last, expected in [
            (0, 1, [1]), (1, 2, [1]), (2, 4, None), (2, 5, [5]), (5, 8, [5]), (6, 8, None), (6, 9, [9]), (0, 0, None),
        ]:
            self.assertEqual(window_ticks(4, [0], [(1, first, last)]), expected)
            self.assertEqual(jam(4, [0], [(1, first, last)]), None if expected else (1, first, last))

    def test_as_many_equal_windows_as_passes_and_one_more(self):
        for marks, heads, window, passes in [
            (4, [0], (1, 0, 11), 3), (4, [0], (1, 1, 9), 3), (4, [0], (1, 2, 8), 1), (4, [0, 0], (1, 1, 5), 4),
            (4, [0, 2], (1, 0, 7), 4), (1, [0], (0, 10, 39), 30), (1, [0] * 6, (0, 0, 3), 24),
            (MOST, [3] * 6, (2, MOST - 1, 5 * MOST - 2), 24), (MOST, [0], (MOST - 1, 0, LONGEST), 10),
        ]:
            ticks = window_ticks(marks, heads, [window] * passes)
            self.assertTrue(good_ticks(marks, heads, [window] * passes, ticks))
            self.assertIsNone(jam(marks, heads, [window] * passes))
            if passes < 30:
                self.assertIsNone(window_ticks(marks, heads, [window] * (passes + 1)))
                self.assertEqual(jam(marks, heads, [window] * (passes + 1)), window)
                self.assertIs(shows_jam(marks, heads, [window] * passes, window), False)

    def test_windows_in_which_no_head_passes(self):
        self.assertIsNone(window_ticks(4, [0, 1], [(3, 0, 9), (2, 3, 4)]))
        self.assertEqual(jam(4, [0, 1], [(3, 0, 9), (2, 3, 4)]), (2, 3, 4))
        self.assertIsNone(window_ticks(MOST, [0], [(MOST - 1, 0, MOST - 2)]))
        self.assertEqual(jam(MOST, [0], [(MOST - 1, 0, MOST - 2)]), (MOST - 1, 0, MOST - 2))

    def test_a_window_that_lets_a_later_one_go_first(self):
        self.assertEqual(window_ticks(4, [0], [(1, 0, 9), (1, 0, 1), (1, 0, 5)]), [9, 1, 5])
        self.assertEqual(window_ticks(4, [0], [(1, 0, 8), (1, 2, 9), (1, 4, 5)]), [1, 9, 5])

    def test_marks_do_not_disturb_each_other(self):
        self.assertEqual(window_ticks(4, [0], [(0, 0, 3), (1, 0, 3), (2, 0, 3), (3, 0, 3)]), [0, 1, 2, 3])
        self.assertEqual(window_ticks(1, [0, 0], [(0, 5, 5), (0, 5, 5)]), [5, 5])
        self.assertEqual(jam(1, [0, 0], [(0, 5, 5)] * 3), (0, 5, 5))

    def test_lists_are_new(self):
        windows = [(1, 0, 3), (1, 0, 8)]
        ticks = window_ticks(4, [0], windows)
        ticks.append(7)
        self.assertEqual(window_ticks(4, [0], windows), [1, 5])


class ShowsTest(RingTest):

    def test_ticks_with_one_thing_otherwise(self):
        told = {True: 0, False: 0}
        for marks, heads, windows in small_windows(600, 83):
            ticks = window_ticks(marks, heads, windows) or [first for _, first, _ in windows]
            for at, tick in enumerate(ticks):
                for other in (tick - 1, tick + 1, tick + marks, tick - marks, -1, 0, *ticks, windows[at][2], LONGEST):
                    value = ticks[:at] + [other] + ticks[at + 1:]
                    expected = good_ticks(marks, heads, windows, value)
                    self.assertIs(shows_ticks(marks, heads, windows, value), expected, (marks, heads, windows, value))
                    told[expected] += 1
                self.assertIs(shows_ticks(marks, heads, windows, ticks[:at] + [bool(tick)] + ticks[at + 1:]), False)
                self.assertIs(shows_ticks(marks, heads, windows, ticks[:at] + ticks[at + 1:]), False)
                self.assertIs(shows_ticks(marks, heads, windows, ticks + [tick]), False)
                for value in (None, str(tick), [tick], (tick,), tick + HUGE, -HUGE):
                    self.assertIs(shows_ticks(marks, heads, windows, ticks[:at] + [value] + ticks[at + 1:]), False)
            self.assertIs(shows_ticks(marks, heads, windows, tuple(ticks)), False)
            self.assertIs(shows_ticks(marks, heads, windows, [ticks]), False)
            value = ticks[::-1]
            self.assertIs(shows_ticks(marks, heads, windows, value), good_ticks(marks, heads, windows, value))
        self.assertGreater(min(told.values()), 300)

    def test_as_many_records_as_heads(self):
        windows = [(1, 0, 3)] * 3
        for heads, expected in [([0, 0, 0], True), ([0] * 6, True), ([0, 0], False), ([0, 0, 1], False)]:
            self.assertIs(shows_ticks(4, heads, windows, [1, 1, 1]), expected)
        self.assertIs(shows_ticks(4, [0, 0, 1], windows, [1, 1, 0]), True)
        self.assertIs(shows_ticks(4, [0, 0, 1], windows, [1, 0, 0]), False)
        self.assertIs(shows_ticks(4, [0, 0, 1], windows, [1, 1, 2]), False)
        self.assertIs(shows_ticks(4, [0], [(1, 0, 3)], [True]), False)
        self.assertIs(shows_ticks(MOST, [0], [(MOST - 1, 0, LONGEST)], [LONGEST - 1]), True)
        self.assertIs(shows_ticks(MOST, [0], [(MOST - 1, 0, LONGEST)], [LONGEST]), False)

    def test_all_jams_of_small_windows(self):
        told = {True: 0, False: 0}
        for marks, heads, windows in small_windows(200, 84):
            for mark, first, last in product(range(-1, marks + 1), range(-1, 13), range(-1, 15)):
                good = (mark in range(marks) and 0 <= first <= last
                        and good_jam(marks, heads, windows, mark, first, last))
                self.assertIs(shows_jam(marks, heads, windows, (mark, first, last)), good)
                told[good] += 1
        self.assertGreater(min(told.values()), 400)

    def test_jams_with_one_thing_otherwise(self):
        windows = [(1, 1, 1), (1, 1, 1), (0, 0, 0)]
        self.assertIs(shows_jam(4, [0], windows, (1, 1, 1)), True)
        # Any ticks around a jam are one, too, as long as no head passes in them; the last ones may be very late.
        for value, expected in [
            ((1, 0, 1), True), ((1, 0, 4), True), ((1, 0, 5), False), ((1, 1, 2), True), ((1, 2, 2), False),
            ((1, 1, 0), False), ((1, -1, 1), False), ((0, 1, 1), False), ((0, 0, 1), False), ((-3, 1, 1), False),
            ((5, 1, 1), False), ([1, 1, 1], False), ((1, 1), False), ((1, 1, 1, 1), False), ((True, 1, 1), False),
            ((1, True, 1), False), ((1, 1, True), False), ((1, False, 1), False), (("1", 1, 1), False),
            ((1, None, 1), False), ((1, 1, [1]), False), ((1, (1, 1)), False), (((1, 1, 1),), False),
            ((HUGE, 1, 1), False), ((1, HUGE, HUGE), False), ((1, 0, HUGE), False), ((1, -HUGE, 1), False),
        ]:
            self.assertIs(shows_jam(4, [0], windows, value), expected, value)
        self.assertIs(shows_jam(MOST, [0], [(2, 0, 1)], (2, 0, 1)), True)
        self.assertIs(shows_jam(MOST, [0], [(2, 0, 1)], (2, 0, 2)), False)
        self.assertIs(shows_jam(MOST, [0], [(2, 3, LONGEST)] * 30, (2, 3, 10 ** 99)), False)
        self.assertIs(shows_jam(MOST, [0], [(2, 3, LONGEST)] * 30, (2, 0, 29 * MOST + 1)), True)
        self.assertIs(shows_jam(MOST, [0], [(2, 3, LONGEST)] * 30, (2, 0, 29 * MOST + 2)), False)

    def test_any_value(self):
        windows = [(1, 0, 3), (1, 0, 4)]
        for value in ANY_VALUES:
            self.assertIs(shows_ticks(4, [0], windows, value), False, value)
            self.assertIs(shows_ticks(4, [0], windows, [1, value]), False, value)
            self.assertIs(shows_ticks(4, [0, 0], windows, [1, value]), type(value) is int and value == 1, value)
            self.assertIs(shows_jam(4, [0], windows, value), False, value)
            self.assertIs(shows_jam(4, [0], windows, (value, 0, 4)), type(value) is int and value == 1, value)
            self.assertIs(shows_jam(4, [0], windows, (1, value, 4)), type(value) is int and value == 0, value)
            self.assertIs(shows_jam(4, [0], windows, (1, 0, value)), type(value) is int and value == 4, value)

    def test_wrong_parameters_beside_any_value(self):
        for value in ANY_VALUES[::5]:
            for function in (shows_ticks, shows_jam):
                self.expect("InvalidMarks", {}, function, 0, [4], [(4, 0, 0)], value)
                self.expect("InvalidHeads", {"index": 0}, function, 4, [4], [(4, 0, 0)], value)
                self.expect("InvalidWindows", {"index": 1}, function, 4, [3], [(3, 0, 0), (4, 0, 0)], value)


class ParametersTest(RingTest):

    def test_rings_and_windows_at_the_limits(self):
        self.assertEqual(window_ticks(1, [0], [(0, LONGEST, LONGEST)]), [LONGEST])
        self.assertEqual(window_ticks(MOST, [0], [(MOST - 1, 0, LONGEST)]), [MOST - 1])
        for function in (window_ticks, jam):
            self.expect("InvalidWindows", {"index": 0}, function, 1, [0], [(0, LONGEST + 1, LONGEST + 1)])
            self.expect("InvalidWindows", {"index": 0}, function, 1, [0], [(0, LONGEST, LONGEST + 1)])
            self.expect("InvalidWindows", {"index": 1}, function, 4, [0], [(0, 3, 3), (0, 4, 3)])
            self.expect("InvalidWindows", {"index": None}, function, 4, [0], [(0, 0, 0)] * 31)
            self.expect("InvalidHeads", {"index": None}, function, 4, [0] * 7, [(0, 0, 0)])


if __name__ == "__main__":
    unittest.main()
