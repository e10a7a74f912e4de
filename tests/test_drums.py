"""Points [28], [29] and [30]: live drums."""

import inspect
import unittest
from random import Random

from ringreads import drums
from ringreads.arrivals import arrival_run
from ringreads.drums import BudgetDrum, CountingDrum, Drum, ListedCountingDrum, ListedDrum
from ringreads.heads import heads_run
from ringreads.orders import trip_begins
from ringreads.rules import rule_trip
from tests.support import ANY_VALUES, HUGE, NO_RECORDS, NOT_NUMBERS, RingTest, wrong_mark, wrong_marks
from tests.walks import LONGEST, MOST, great_rings, mixed_rings

KINDS = (Drum, ListedDrum, CountingDrum, ListedCountingDrum)
METHODS = {
    "add": "self, begin, length", "go": "self, ticks", "undo": "self", "begin_of": "self, number", "twin": "self",
    "described": "self", "__init__": "self, marks, mark", "__len__": "self", "__eq__": "self, other",
}
PROPERTIES = ["done", "mark", "marks", "reading", "tick", "waiting"]


class Walk:
    """What a drum must tell, by a walk tick by tick over the calls that are not reverted."""

    def __init__(self, listed, marks, mark):
        self.listed, self.marks, self.start = listed, marks, mark
        self.calls = []
        self.walk()

    def walk(self):
        """Walk through all calls anew, and tell what the last one returns."""
        self.tick = self.idle = 0
        self.records, self.begun, self.ends = [], [], {}
        returned = None
        for name, *values in self.calls:
            if name == "add":
                self.records.append(values)
                self.begun.append(None)
                returned = len(self.records) - 1
            else:
                returned = sorted(number for _ in range(*values) for number in self.one_tick())
        return returned

    def one_tick(self):
        """Let one tick pass, and tell which records end in it."""
        here = [number for number in self.waiting()[:1 if self.listed else None]
                if self.records[number][0] == (self.start + self.tick) % self.marks]
        if self.reading() is None and here:
            self.begun[here[0]] = self.tick
        reading = self.reading()
        self.tick += 1
        if reading is None:
            self.idle += 1
            return []
        if self.begun[reading] + self.records[reading][1] > self.tick:
            return []
        self.ends[reading] = self.tick
        return [reading]

    def call(self, *call):
        self.calls.append(call)
        return self.walk()

    def waiting(self):
        return [number for number, tick in enumerate(self.begun) if tick is None]

    def reading(self):
        return next((at for at, tick in enumerate(self.begun) if tick is not None and at not in self.ends), None)

    def told(self, counting):
        """All that a drum tells."""
        idle = [self.idle] if counting else []
        strings = [f"tick {self.tick}", f"waiting {len(self.waiting())}", f"done {len(self.ends)}"]
        return [self.marks, self.tick, (self.start + self.tick) % self.marks, self.waiting(), self.reading(),
                sorted(self.ends), self.begun, len(self.records), strings + [f"idle {n}" for n in idle], *idle]


def told(drum):
    """All that a drum tells."""
    idle = [drum.idle] if isinstance(drum, CountingDrum) else []
    return [drum.marks, drum.tick, drum.mark, drum.waiting, drum.reading, drum.done,
            [drum.begin_of(number) for number in range(len(drum))], len(drum), drum.described(), *idle]


def made(kind, marks, mark):
    """A drum of a class, with a budget that is never full."""
    return kind(marks, mark, 100) if kind is BudgetDrum else kind(marks, mark)


def drawn_calls(chance, marks, many):
    """So many calls of add, go and undo, more of them of the first two."""
    for _ in range(many):
        kind = chance.choice(["add", "add", "add", "go", "go", "undo"])
        if kind == "add":
            yield "add", chance.randrange(marks), chance.randint(1, chance.choice([1, marks, 2 * marks]))
        elif kind == "go":
            yield "go", chance.randint(1, chance.choice([1, 2, marks, 3 * marks]))
        else:
            yield ("undo",)


class WalkedTest(RingTest):

    def run_both(self, drum, walk, calls):
        """Call the drum and walk beside it, and tell how many calls were reverted."""
        undone = 0
        for name, *values in calls:
            if name != "undo":
                self.assertEqual(getattr(drum, name)(*values), walk.call(name, *values))
            elif walk.calls:
                walk.calls.pop()
                walk.walk()
                self.assertIsNone(drum.undo())
                undone += 1
            else:
                self.expect("NothingToUndo", {}, drum.undo)
            self.assertEqual(repr(told(drum)), repr(walk.told(isinstance(drum, CountingDrum))), walk.calls)
        return undone

    def test_drawn_calls_tick_by_tick(self):
        chance = Random(100)
        undone = 0
        for kind in (*KINDS, BudgetDrum):
            for _ in range(60):
                marks = chance.randint(1, 7)
                mark = chance.randrange(marks)
                walk = Walk(issubclass(kind, ListedDrum), marks, mark)
                drum = made(kind, marks, mark)
                undone += self.run_both(drum, walk, drawn_calls(chance, marks, chance.randint(5, 40)))
        self.assertGreater(undone, 500)

    def test_two_hundred_calls(self):
        chance = Random(101)
        for kind in (*KINDS, BudgetDrum):
            drum, walk = made(kind, 5, 3), Walk(issubclass(kind, ListedDrum), 5, 3)
            calls = [call for call in drawn_calls(chance, 5, 250) if call[0] != "undo"][:150] + [("undo",)] * 50
            self.assertEqual(self.run_both(drum, walk, calls), 50)

    def test_undo_back_to_the_beginning(self):
        chance = Random(102)
        for kind in (*KINDS, BudgetDrum):
            drum = made(kind, 6, 2)
            states = []
            for name, *values in [call for call in drawn_calls(chance, 6, 80) if call[0] != "undo"]:
                states.append(told(drum))
                getattr(drum, name)(*values)
            for state in reversed(states):
                self.assertIsNone(drum.undo())
                self.assertEqual(told(drum), state)
            self.expect("NothingToUndo", {}, drum.undo)
            self.assertEqual(drum, made(kind, 6, 2))

    def test_a_call_can_be_made_again_behind_undo(self):
        drum = Drum(4, 0)
        self.assertEqual([drum.add(0, 2), drum.add(1, 1), drum.undo(), drum.add(3, 1), drum.undo(), drum.add(2, 2)],
                         [0, 1, None, 1, None, 1])
        self.assertEqual([drum.go(4), drum.undo(), drum.go(3), drum.go(1), drum.done], [[0, 1], None, [0], [1], [0, 1]])


class DrumTest(RingTest):

    def test_a_record_where_the_head_is_now_waits_until_time_goes_on(self):
        for kind in KINDS:
            drum = kind(4, 2)
            drum.add(2, 3)
            self.assertEqual([drum.waiting, drum.reading, drum.begin_of(0)], [[0], None, None])
            self.assertEqual([drum.go(1), drum.waiting, drum.reading, drum.begin_of(0)], [[], [], 0, 0])
            self.assertEqual([drum.go(1), drum.reading, drum.go(1), drum.reading, drum.done], [[], 0, [0], None, [0]])
            # The head has come to the mark 1 just now, where the next record begins.
            drum.add(1, 1)
            self.assertEqual([drum.mark, drum.waiting, drum.go(1), drum.begin_of(1)], [1, [1], [1], 3])

    def test_a_record_that_is_added_behind_its_begin(self):
        drum = Drum(4, 0)
        drum.go(1)
        drum.add(0, 1)
        self.assertEqual([drum.go(3), drum.begin_of(0), drum.go(1), drum.begin_of(0)], [[], None, [0], 4])

    def test_several_records_at_one_begin(self):
        for kind in KINDS:
            drum = kind(3, 0)
            self.assertEqual([drum.add(1, 3), drum.add(1, 1), drum.add(1, 2)], [0, 1, 2])
            self.assertEqual([drum.go(30), [drum.begin_of(number) for number in range(3)]], [[0, 1, 2], [1, 4, 7]])

    def test_records_that_end_in_one_call(self):
        drum = Drum(5, 0)
        for begin in (3, 1, 0, 2):
            drum.add(begin, 1)
        self.assertEqual([drum.go(2), drum.go(2), drum.done, len(drum)], [[1, 2], [0, 3], [0, 1, 2, 3], 4])

    def test_go_from_one_tick_to_very_many(self):
        drum = Drum(1, 0)
        drum.add(0, LONGEST)
        self.assertEqual([drum.go(1), drum.go(LONGEST), drum.tick, drum.done], [[], [0], LONGEST + 1, [0]])
        drum = CountingDrum(MOST, 1)
        for _ in range(100):
            drum.add(0, LONGEST)
        self.assertEqual([drum.go(LONGEST), drum.go(LONGEST), drum.reading, drum.idle], [[], [0], 1, MOST - 1])
        self.assertEqual([drum.begin_of(0), drum.begin_of(1)], [MOST - 1, MOST - 1 + LONGEST])
        for number in range(1, 98):
            self.assertEqual(drum.go(LONGEST), [number])
        self.assertEqual([drum.tick, drum.mark, drum.waiting, drum.idle], [99 * LONGEST, 1, [99], MOST - 1])
        self.assertEqual([drum.go(LONGEST), drum.go(MOST - 2), drum.go(1)], [[98], [], [99]])
        self.assertEqual(drum.done, list(range(100)))
        self.assertEqual([drum.go(LONGEST), drum.tick], [[], 101 * LONGEST + MOST - 1])
        self.assertEqual(drum.idle, drum.tick - 100 * LONGEST)

    def test_a_hundred_records(self):
        for kind in (*KINDS, BudgetDrum):
            drum = made(kind, 4, 0)
            self.assertEqual([drum.add(number % 4, 1) for number in range(100)], list(range(100)))
            self.assertEqual(len(drum), 100)
            before = told(drum)
            self.expect("TooLarge", {"limit": 100}, drum.add, 0, 1)
            self.expect("InvalidRecord", {}, drum.add, 4, 1)
            self.assertEqual(told(drum), before)
            self.assertEqual(drum.go(100), list(range(100)))
            self.expect("TooLarge", {"limit": 100}, drum.add, 0, 1)
            self.assertIsNone(drum.undo())
            self.assertIsNone(drum.undo())
            self.assertEqual([len(drum), drum.add(2, 7)], [99, 99])

    def test_rings_at_the_limits(self):
        for kind in KINDS:
            drum = kind(1, 0)
            self.assertEqual([drum.add(0, 1), drum.add(0, 2), drum.go(3), drum.mark], [0, 1, [0, 1], 0])
            drum = kind(MOST, MOST - 1)
            self.assertEqual([drum.add(MOST - 2, LONGEST), drum.go(MOST - 1), drum.mark], [0, [], MOST - 2])
            self.assertEqual([drum.begin_of(0), drum.go(1), drum.begin_of(0)], [None, [], MOST - 1])

    def test_two_drums_side_by_side(self):
        for kind in KINDS:
            one, other = kind(4, 0), kind(4, 0)
            one.add(0, 2)
            self.assertEqual([len(other), other.waiting], [0, []])
            other.go(5)
            self.assertEqual([one.tick, one.go(2), other.done], [0, [0], []])

    def test_lists_are_new(self):
        for kind in KINDS:
            drum = kind(4, 0)
            drum.add(0, 1)
            drum.add(1, 1)
            ended = drum.go(1)
            for found in (ended, drum.waiting, drum.done, drum.described()):
                found.append("changed")
            self.assertEqual([drum.waiting, drum.done, drum.described()[:3]],
                             [[1], [0], ["tick 1", "waiting 1", "done 1"]])

    def test_by_name(self):
        drum = BudgetDrum(most=2, mark=1, marks=4)
        self.assertEqual([drum.add(length=2, begin=1), drum.go(ticks=2), drum.begin_of(number=0)], [0, [0], 0])
        for kind in KINDS:
            self.assertEqual(kind(mark=1, marks=4), kind(4, 1))
            self.assertEqual(kind(4, mark=1).mark, 1)


class ListedTest(unittest.TestCase):

    def test_it_passes_by_the_others(self):
        for kind in (ListedDrum, ListedCountingDrum):
            drum = kind(4, 0)
            for begin in (3, 2, 1):
                drum.add(begin, 1)
            self.assertEqual([drum.go(6), drum.go(3), drum.go(1)], [[0], [1], [2]])
            self.assertEqual([drum.begin_of(number) for number in range(3)], [3, 6, 9])

    def test_a_record_that_is_added_while_it_waits_for_another_one(self):
        drum = ListedDrum(4, 0)
        drum.add(3, 1)
        drum.go(1)
        drum.add(1, 1)
        self.assertEqual([drum.go(4), drum.go(1), drum.begin_of(0), drum.begin_of(1)], [[0], [1], 3, 5])


class OtherModulesTest(unittest.TestCase):

    def test_a_drum_reads_as_heads_run(self):
        for marks, records in [*mixed_rings(60, 6, 103), *great_rings()]:
            for mark in {0, marks - 1}:
                for kind in KINDS:
                    drum = kind(marks, mark)
                    for begin, length in records:
                        drum.add(begin, length)
                    while drum.waiting:
                        drum.go(LONGEST)
                    begun = [drum.begin_of(number) for number in range(len(records))]
                    if issubclass(kind, ListedDrum):
                        trip = rule_trip(marks, records, mark, "listed")
                        self.assertEqual(begun, trip_begins(marks, records, mark, trip))
                    else:
                        self.assertEqual(begun, [tick for _, tick in heads_run(marks, records, [mark])])

    def test_a_drum_reads_as_arrivals_run(self):
        chance = Random(104)
        for marks, records in mixed_rings(100, 6, 105):
            ticks = sorted(chance.randint(0, 5 * marks) for _ in records)
            drum = Drum(marks, 0)
            for (begin, length), tick in zip(records, ticks):
                if tick > drum.tick:
                    drum.go(tick - drum.tick)
                drum.add(begin, length)
            drum.go(1000)
            arrivals = [(begin, length, tick) for (begin, length), tick in zip(records, ticks)]
            self.assertEqual([drum.begin_of(number) for number in range(6)], arrival_run(marks, 0, arrivals))


class CountingTest(unittest.TestCase):

    def test_idle(self):
        for kind in (CountingDrum, ListedCountingDrum):
            drum = kind(4, 0)
            self.assertEqual([drum.idle, drum.described()], [0, ["tick 0", "waiting 0", "done 0", "idle 0"]])
            drum.add(3, 10)
            self.assertEqual([drum.go(3), drum.idle, drum.go(1), drum.idle], [[], 3, [], 3])
            self.assertEqual([drum.go(9), drum.idle, drum.go(5), drum.idle], [[0], 3, [], 8])
            self.assertEqual(drum.described(), ["tick 18", "waiting 0", "done 1", "idle 8"])
            self.assertEqual([drum.undo(), drum.idle, drum.undo(), drum.idle, drum.undo(), drum.idle],
                             [None, 3, None, 3, None, 3])

    def test_the_others_do_not_count(self):
        for drum in (Drum(4, 0), ListedDrum(4, 0), BudgetDrum(4, 0, 1)):
            self.assertFalse(hasattr(drum, "idle"))
            self.assertEqual(drum.described(), ["tick 0", "waiting 0", "done 0"])


class BudgetTest(RingTest):

    def test_a_full_budget(self):
        for most in (1, 2, 7, 99, 100):
            drum = BudgetDrum(4, 0, most)
            self.assertEqual([drum.add(1, 1) for _ in range(most)], list(range(most)))
            before = told(drum)
            if most < 100:
                self.expect("Refused", {"count": most}, drum.add, 0, 1)
                self.expect("Refused", {"count": most}, drum.add, 1, LONGEST)
            else:
                self.expect("TooLarge", {"limit": 100}, drum.add, 0, 1)
            # The other errors come first.
            self.expect("InvalidRecord", {}, drum.add, 4, 1)
            self.expect("InvalidRecord", {}, drum.add, 0, 0)
            self.assertEqual(told(drum), before)
            self.assertEqual(len(drum), most)

    def test_only_waiting_records_count(self):
        drum = BudgetDrum(4, 0, 2)
        self.assertEqual([drum.add(0, 3), drum.add(0, 1)], [0, 1])
        self.expect("Refused", {"count": 2}, drum.add, 3, 1)
        # It is at the begin already, but the record waits until time goes on.
        self.assertEqual([drum.go(1), drum.add(3, 1)], [[], 2])
        self.expect("Refused", {"count": 2}, drum.add, 3, 1)
        self.assertEqual([drum.go(2), drum.waiting], [[0], [1, 2]])
        self.expect("Refused", {"count": 2}, drum.add, 3, 1)
        self.assertEqual([drum.go(1), drum.waiting, drum.add(3, 1), drum.waiting], [[2], [1], 3, [1, 3]])

    def test_a_refused_call_is_nothing_to_undo(self):
        drum = BudgetDrum(4, 0, 1)
        drum.add(0, 1)
        self.expect("Refused", {"count": 1}, drum.add, 0, 1)
        self.assertIsNone(drum.undo())
        self.assertEqual(len(drum), 0)
        self.expect("NothingToUndo", {}, drum.undo)

    def test_too_large_comes_ahead_of_refused(self):
        drum = BudgetDrum(1, 0, 1)
        for _ in range(99):
            drum.add(0, 1)
            drum.go(1)
        drum.add(0, 1)
        self.expect("TooLarge", {"limit": 100}, drum.add, 0, 1)
        self.expect("InvalidRecord", {}, drum.add, 1, 1)


class TwinTest(unittest.TestCase):

    def test_twins_go_their_own_ways(self):
        chance = Random(106)
        for kind in (*KINDS, BudgetDrum):
            for _ in range(20):
                drum = made(kind, 5, 4)
                for name, *values in [call for call in drawn_calls(chance, 5, 30) if call[0] != "undo"]:
                    getattr(drum, name)(*values)
                twin = drum.twin()
                self.assertIs(type(twin), kind)
                self.assertEqual([twin, told(twin)], [drum, told(drum)])
                before = told(drum)
                twin.add(0, 3)
                twin.go(7)
                self.assertEqual(told(drum), before)
                self.assertNotEqual(twin, drum)
                after = told(twin)
                drum.undo()
                drum.go(100)
                self.assertEqual(told(twin), after)
                twin.undo()
                twin.undo()
                self.assertEqual(told(twin), before)

    def test_a_twin_reverts_the_same_calls(self):
        chance = Random(107)
        for kind in (*KINDS, BudgetDrum):
            drum = made(kind, 5, 0)
            calls = [call for call in drawn_calls(chance, 5, 40) if call[0] != "undo"]
            for name, *values in calls:
                getattr(drum, name)(*values)
            twin = drum.twin()
            for _ in calls:
                self.assertEqual([twin.undo(), drum.undo(), told(twin)], [None, None, told(drum)])
                self.assertEqual(twin, drum)
            for empty in (drum, twin, drum.twin()):
                with self.assertRaises(drums.NothingToUndo):
                    empty.undo()

    def test_the_budget_of_a_twin(self):
        drum = BudgetDrum(4, 0, 2)
        drum.add(0, 1)
        twin = drum.twin()
        twin.add(0, 1)
        with self.assertRaises(drums.Refused) as caught:
            twin.add(0, 1)
        self.assertEqual(caught.exception.count, 2)
        self.assertEqual(drum.add(1, 1), 1)

    def test_a_twin_of_a_twin(self):
        drum = Drum(4, 0)
        drum.add(0, 2)
        other = drum.twin().twin()
        self.assertEqual([other.go(2), drum.go(1), other.done, drum.done], [[0], [], [0], []])


class EqualTest(unittest.TestCase):

    def called(self, *calls, drum=None):
        drum = drum or Drum(4, 0)
        for name, *values in calls:
            getattr(drum, name)(*values)
        return drum

    def test_equal_calls_make_equal_drums(self):
        calls = [("add", 0, 2), ("go", 3), ("add", 1, 2), ("go", 2)]
        for at in range(len(calls)):
            more = calls[:at] + [("go", 9), ("add", 3, 3), ("undo",), ("undo",)] + calls[at:]
            self.assertTrue(self.called(*calls) == self.called(*more))
            self.assertFalse(self.called(*calls) != self.called(*more))
            self.assertFalse(self.called(*calls) == self.called(*calls[:at], *calls[at + 1:]))
            self.assertTrue(self.called(*calls) != self.called(*calls[:at], *calls[at + 1:]))

    def test_unlike_calls_with_one_state(self):
        self.assertNotEqual(self.called(("go", 2), ("go", 3)), self.called(("go", 5)))
        self.assertNotEqual(self.called(("go", 2), ("go", 3)), self.called(("go", 3), ("go", 2)))
        self.assertEqual(told(self.called(("go", 2), ("go", 3))), told(self.called(("go", 5))))
        self.assertNotEqual(self.called(("add", 0, 1), ("add", 1, 1)), self.called(("add", 1, 1), ("add", 0, 1)))
        self.assertNotEqual(self.called(("add", 0, 1), ("go", 4)), self.called(("go", 4), ("add", 0, 1)))
        self.assertNotEqual(self.called(("add", 0, 1)), self.called(("add", 0, 2)))
        self.assertNotEqual(self.called(("add", 0, 1)), self.called(("add", 1, 1)))

    def test_calls_that_raise_do_not_count(self):
        drum = Drum(4, 0)
        for wrong in ((drum.add, (4, 1)), (drum.go, (0,)), (drum.undo, ()), (drum.begin_of, (0,))):
            with self.assertRaises(ValueError):
                wrong[0](*wrong[1])
        self.assertEqual(drum, Drum(4, 0))

    def test_questions_do_not_count(self):
        drum = self.called(("add", 0, 1), ("go", 9))
        told(drum)
        drum.twin().go(1)
        self.assertEqual(drum, self.called(("add", 0, 1), ("go", 9)))

    def test_two_classes_or_other_arguments(self):
        found = [kind(4, 0) for kind in KINDS] + [kind(4, 1) for kind in KINDS] + [kind(5, 0) for kind in KINDS]
        found += [BudgetDrum(4, 0, most) for most in (1, 2, 100)] + [BudgetDrum(4, 1, 1), BudgetDrum(5, 0, 1)]
        for at, one in enumerate(found):
            for other, drum in enumerate(found):
                self.assertIs(one == drum, at == other)
                self.assertIs(one != drum, at != other)
                self.assertEqual(one.twin() == drum, at == other)

    def test_any_other_value(self):
        for drum in (Drum(1, 0), CountingDrum(1, 0), BudgetDrum(1, 0, 1)):
            for value in [*ANY_VALUES, 0, "", object(), Drum, (1, 0), [drum], {"drum": drum}]:
                self.assertIs(drum == value, False)
                self.assertIs(drum != value, True)
                self.assertIs(value == drum, False)


class ErrorsTest(RingTest):

    def test_wrong_arguments(self):
        for kind in KINDS:
            for value, name, fields in wrong_marks():
                self.expect(name, fields, kind, value, 0)
                self.expect(name, fields, kind, value, value)
                self.expect(name, fields, kind, marks=value, mark=-1)
            for value, name, fields in wrong_mark():
                self.expect(name, fields, kind, 4, value)
                self.expect(name, fields, kind, mark=value, marks=4)

    def test_wrong_budgets(self):
        for value in [*NOT_NUMBERS, 0, -1, 101, 102, HUGE, -HUGE]:
            self.expect("InvalidNumber", {}, BudgetDrum, 4, 0, value)
            self.expect("InvalidMark", {}, BudgetDrum, 4, 4, value)
            self.expect("InvalidMarks", {}, BudgetDrum, 0, 4, value)
        for most in (1, 100):
            self.assertEqual(len(BudgetDrum(4, 0, most)), 0)

    def test_wrong_records(self):
        for kind in (*KINDS, BudgetDrum):
            drum = made(kind, 4, 0)
            before = told(drum)
            for value in NO_RECORDS:
                if type(value) is tuple and len(value) == 2:
                    self.expect("InvalidRecord", {}, drum.add, *value)
                    self.expect("InvalidRecord", {}, drum.add, length=value[1], begin=value[0])
            for value in [*NOT_NUMBERS, -1, HUGE, -HUGE, (0, 2)]:
                self.expect("InvalidRecord", {}, drum.add, value, 2)
                self.expect("InvalidRecord", {}, drum.add, 0, value)
                self.expect("InvalidRecord", {}, drum.add, value, value)
            self.assertEqual(told(drum), before)
            self.expect("NothingToUndo", {}, drum.undo)
            self.assertEqual(drum.add(3, LONGEST), 0)

    def test_wrong_ticks_and_numbers(self):
        for kind in (*KINDS, BudgetDrum):
            drum = made(kind, 4, 0)
            self.expect("InvalidNumber", {}, drum.begin_of, 0)
            drum.add(0, 1)
            before = told(drum)
            for value in [*NOT_NUMBERS, 0, -1, LONGEST + 1, HUGE, -HUGE]:
                self.expect("InvalidNumber", {}, drum.go, value)
            for value in [*NOT_NUMBERS, -1, 1, 2, HUGE, -HUGE]:
                self.expect("InvalidNumber", {}, drum.begin_of, value)
            self.assertEqual(told(drum), before)
            self.assertIsNone(drum.begin_of(0))
            self.assertIsNone(drum.undo())
            self.expect("InvalidNumber", {}, drum.begin_of, 0)
            self.expect("NothingToUndo", {}, drum.undo)


class InterfaceTest(unittest.TestCase):

    def test_classes_and_their_methods(self):
        self.assertEqual([kind.__bases__ for kind in (*KINDS, BudgetDrum)],
                         [(object,), (Drum,), (Drum,), (ListedDrum, CountingDrum), (Drum,)])
        for kind in (*KINDS, BudgetDrum):
            self.assertEqual(kind.__module__, "ringreads.drums")
            self.assertIn("__init__", vars(kind))
        for name, parameters in METHODS.items():
            self.assertEqual(str(inspect.signature(vars(Drum)[name])), f"({parameters})")
        self.assertEqual(str(inspect.signature(BudgetDrum)), "(marks, mark, most)")
        self.assertEqual(str(inspect.signature(vars(BudgetDrum)["add"])), "(self, begin, length)")
        self.assertIn("described", vars(CountingDrum))

    def test_properties(self):
        self.assertEqual([name for name in PROPERTIES if isinstance(vars(Drum)[name], property)], PROPERTIES)
        self.assertIsInstance(vars(CountingDrum)["idle"], property)
        for kind in KINDS:
            drum = kind(4, 0)
            for name in PROPERTIES:
                with self.assertRaises(AttributeError):
                    setattr(drum, name, 0)


if __name__ == "__main__":
    unittest.main()
