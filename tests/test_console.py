"""Point [32]: the console."""

import inspect
import unittest
from random import Random

from ringreads.changes import added_rounds, gap_at
from ringreads.checks import RULES
from ringreads.console import Console
from ringreads.counting import lap_count
from ringreads.heads import pieces_ticks
from ringreads.rounds import fewest_rounds, least_lap, parts
from ringreads.rules import rule_ticks, rule_trip
from ringreads.texts import format_numbers, format_records
from ringreads.trips import fewest_ticks, least_trip, trip_count
from tests.support import NO_TEXTS, NO_WORDS, THREE, RingTest
from tests.walks import LONGEST, MOST, great_rings, mixed_rings, small_rings

SINGLE = ["rounds", "lap", "laps", "parts", "ticks", "trip", "trips", "gap"]
RIGHT = [
    "ring 4", "records 0+2", "records 0+2 1+2 2+1", "mark 3", *SINGLE, "rule listed", "late brief", "add 3+3",
    "pieces 0", "pieces 0 2",
]
# The kinds of words behind the names of commands, and commands that one of them stands in.
WITH_NUMBERS = ["ring {}", "mark {}", "pieces {}", "pieces 0 {}", "pieces {} 0", "pieces 0 1 {} 2"]
WITH_RECORDS = ["records {}", "records 0+2 {}", "records {} 0+2", "add {}"]
WITH_RULES = ["rule {}", "late {}"]


def some_rings():
    """Rings of many kinds, each with a mark."""
    chance = Random(120)
    for marks, records in [*list(small_rings())[::11], *mixed_rings(40, 6, 121), *great_rings()]:
        yield marks, records, chance.choice([0, marks - 1, chance.randrange(marks)])


def told(console):
    """What the console tells by all commands that set nothing."""
    names = [*SINGLE, *["rule " + rule for rule in RULES], *["late " + rule for rule in RULES], "add 0+3", "pieces 0"]
    return [console.execute(name) for name in names]


def expected(marks, records, mark):
    """What a console must tell by these commands."""
    ticks = fewest_ticks(marks, records, mark)
    return [
        str(fewest_rounds(marks, records)), format_numbers(least_lap(marks, records)), str(lap_count(marks, records)),
        str(len(parts(marks, records))), str(ticks), format_numbers(least_trip(marks, records, mark)),
        str(trip_count(marks, records, mark)), str(gap_at(marks, records, mark)),
        *[format_numbers(rule_trip(marks, records, mark, rule)) for rule in RULES],
        *[str(rule_ticks(marks, records, mark, rule) - ticks) for rule in RULES],
        str(added_rounds(marks, records, (0, 3))), str(pieces_ticks(marks, records, [0])),
    ]


class CommandTest(RingTest):

    def test_at_first(self):
        self.assertEqual(told(Console()), expected(1, [(0, 1)], 0))
        self.assertEqual(told(Console())[:8], ["1", "0", "1", "1", "1", "0", "1", "0"])

    def test_each_command_against_the_functions(self):
        console = Console()
        for marks, records, mark in some_rings():
            self.assertEqual(console.execute(f"ring {marks}"), "ok")
            self.assertEqual(console.execute("records " + format_records(marks, records)), "ok")
            self.assertEqual(console.execute(f"mark {mark}"), "ok")
            self.assertEqual(told(console), expected(marks, records, mark), (marks, records, mark))
            heads = [0, mark, marks - 1, mark, 0, marks // 2]
            for many in range(1, 7):
                self.assertEqual(console.execute("pieces " + format_numbers(heads[:many])),
                                 str(pieces_ticks(marks, records, heads[:many])))
            for begin, length in records[:3]:
                self.assertEqual(console.execute(f"add {begin}+{length}"),
                                 str(added_rounds(marks, records, (begin, length))))
            console.execute("mark 0")
            self.assertEqual(told(console), expected(marks, records, 0))

    def test_a_ring_brings_its_record_and_mark(self):
        console = Console()
        for command in ("ring 4", "records 0+2 1+2 2+1", "mark 3", "ring 5"):
            self.assertEqual(console.execute(command), "ok")
        self.assertEqual(told(console), expected(5, [(0, 1)], 0))
        for command in ("ring 4", "records 0+2 1+2 2+1", "mark 3", "ring 4"):
            self.assertEqual(console.execute(command), "ok")
        self.assertEqual(told(console), expected(4, [(0, 1)], 0))

    def test_records_leave_the_mark(self):
        console = Console()
        for command in ("ring 4", "mark 3", "records 0+2 1+2 2+1"):
            self.assertEqual(console.execute(command), "ok")
        self.assertEqual(told(console), expected(4, THREE, 3))

    def test_questions_change_nothing(self):
        console = Console()
        for command in ("ring 4", "records 0+2 1+2 2+1", "mark 1"):
            console.execute(command)
        for command in ("add 3+3", "pieces 2 3", "rule brief", "late listed", "gap", "rounds"):
            console.execute(command)
            self.assertEqual(told(console), expected(4, THREE, 1))

    def test_numbers_at_the_limits(self):
        console = Console()
        self.assertEqual(console.execute(f"ring {MOST}"), "ok")
        self.assertEqual(console.execute(f"records {MOST - 1}+{LONGEST}"), "ok")
        self.assertEqual(console.execute(f"mark {MOST - 1}"), "ok")
        self.assertEqual(told(console), expected(MOST, [(MOST - 1, LONGEST)], MOST - 1))
        self.assertEqual(console.execute("records " + " ".join(["0+1"] * 30)), "ok")
        self.assertEqual(console.execute("rounds"), "30")

    def test_each_right_command(self):
        console = Console()
        for command in RIGHT:
            self.assertIs(type(console.execute(command)), str)

    def test_two_consoles_side_by_side(self):
        one, other = Console(), Console()
        one.execute("ring 4")
        self.assertEqual(told(other), expected(1, [(0, 1)], 0))
        other.execute("ring 2")
        other.execute("records 0+2 1+2")
        self.assertEqual([one.execute("rounds"), other.execute("rounds")], ["1", "3"])
        one.execute("mark 3")
        self.assertEqual([told(one), told(other)], [expected(4, [(0, 1)], 3), expected(2, [(0, 2), (1, 2)], 0)])

    def test_by_name(self):
        self.assertEqual(Console().execute(command="rounds"), "1")
        self.assertEqual(Console.__module__, "ringreads.console")
        self.assertEqual(str(inspect.signature(Console)), "()")
        self.assertEqual(str(inspect.signature(vars(Console)["execute"])), "(self, command)")
        self.assertIn("__init__", vars(Console))


class WrongTest(RingTest):

    def setUp(self):
        self.console = Console()
        for command in ("ring 4", "records 0+2 1+2 2+1", "mark 1"):
            self.console.execute(command)

    def tearDown(self):
        self.assertEqual(told(self.console), expected(4, THREE, 1), "behind an error the console stands as ahead of it")

    def wrong(self, name, fields, *commands):
        for command in commands:
            self.expect(name, fields, self.console.execute, command)
            self.assertEqual(self.console.execute("trip"), "1 0 2")

    def test_what_is_no_string(self):
        self.wrong("InvalidCommand", {}, *NO_TEXTS)
        self.wrong("InvalidCommand", {}, ["rounds"], ("ring", 4), {"ring": 4}, b"rounds")

    def test_words_more_or_less(self):
        for command in SINGLE:
            for more in ("0", "0+2", "listed", command):
                self.wrong("InvalidCommand", {}, command + " " + more)
        self.wrong("InvalidCommand", {}, "ring", "records", "mark", "rule", "late", "add", "pieces")
        self.wrong("InvalidCommand", {}, "ring 4 4", "mark 0 1", "rule listed brief", "late listed 0", "add 0+2 1+2")

    def test_spaces(self):
        for command in RIGHT:
            self.wrong("InvalidCommand", {}, " " + command, command + " ", command + "  ", "  " + command)
            self.wrong("InvalidCommand", {}, command.replace(" ", "  ") + " ", command.replace(" ", "\n") + "\n")
            if " " in command:
                self.wrong("InvalidCommand", {}, command.replace(" ", "  ", 1), command.replace(" ", "\t", 1),
                           command.replace(" ", "", 1))
        self.wrong("InvalidCommand", {}, "", " ", "  ", "\n")

    def test_names_of_no_command(self):
        self.wrong("InvalidCommand", {}, "Rounds", "ROUNDS", "round", "roundss", "ok", "4", "0+2", "listed", "undo")
        self.wrong("InvalidCommand", {}, "rings 4", "record 0+2", "marks 1", "rules listed", "nearest", "moved 1")

    def test_names_of_no_rule(self):
        for word in [*NO_WORDS, "Listed", "LISTED", "nearest,", "short", "shortests", "0", "0+2", "rule", "late"]:
            if word != "nearest":
                self.wrong("InvalidCommand", {}, *[form.format(word) for form in WITH_RULES])

    def test_what_is_no_number(self):
        for word in NO_WORDS + ["0+2", "listed"]:
            self.wrong("InvalidCommand", {}, *[form.format(word) for form in WITH_NUMBERS])
            # The form of a command is judged ahead of its values.
            self.wrong("InvalidCommand", {}, f"pieces 9 {word}", f"pieces {word} 9", f"ring 0 {word}", f"mark 9 {word}")

    def test_what_is_no_pair_of_numbers(self):
        words = NO_WORDS + [word + "+2" for word in NO_WORDS] + ["0+" + word for word in NO_WORDS]
        for word in words + ["0", "2", "0+2+1", "0++2", "+0+2", "0+2+", "0-2", "0,2", "(0,2)", "listed"]:
            self.wrong("InvalidCommand", {}, *[form.format(word) for form in WITH_RECORDS])
            self.wrong("InvalidCommand", {}, f"records 9+9 {word}", f"records {word} 9+9")

    def test_values_that_are_numbers_of_31_digits_and_more(self):
        for number in (10 ** 31, 10 ** 32 - 1):
            self.wrong("InvalidMarks", {}, f"ring {number}")
            self.wrong("InvalidMark", {}, f"mark {number}")
            self.wrong("InvalidHeads", {"index": 0}, f"pieces {number}")
            self.wrong("InvalidRecord", {}, f"add {number}+1")
        for number in (10 ** 32, 10 ** 33):
            self.wrong("InvalidCommand", {}, f"ring {number}", f"mark {number}", f"pieces {number}", f"add {number}+1",
                       f"add 0+{number}", f"records 0+{number}")

    def test_errors_of_values(self):
        self.wrong("InvalidMarks", {}, "ring 0", f"ring {MOST + 1}")
        self.wrong("InvalidMark", {}, "mark 4", "mark 5", f"mark {MOST}")
        self.wrong("InvalidRecord", {}, "add 4+1", "add 0+0", f"add 0+{LONGEST + 1}", "add 9+0")
        self.wrong("InvalidRecords", {"index": 0}, "records 4+1", "records 0+0", f"records 0+{LONGEST + 1}")
        self.wrong("InvalidRecords", {"index": 0}, "records 4+1 4+1", "records 0+0 0+2")
        self.wrong("InvalidRecords", {"index": 1}, "records 0+2 4+1", "records 0+2 0+0 0+0")
        self.wrong("InvalidRecords", {"index": 29}, "records " + " ".join(["0+2"] * 29 + ["4+1"]))
        self.wrong("InvalidRecords", {"index": None}, "records" + " 0+2" * 31, "records" + " 4+1" * 32)
        self.wrong("InvalidHeads", {"index": 0}, "pieces 4", "pieces 4 0", "pieces 9 9")
        self.wrong("InvalidHeads", {"index": 5}, "pieces 0 1 2 3 0 4")
        self.wrong("InvalidHeads", {"index": None}, "pieces 0 0 0 0 0 0 0", "pieces 9 9 9 9 9 9 9 9")


if __name__ == "__main__":
    unittest.main()
