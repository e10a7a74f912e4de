"""A console with a ring, records and a mark."""

from ringreads.changes import added_rounds, gap_at
from ringreads.checks import RULES, check_mark, check_marks, check_ring
from ringreads.counting import lap_count
from ringreads.errors import InvalidCommand
from ringreads.heads import pieces_ticks
from ringreads.rounds import fewest_rounds, least_lap, parts
from ringreads.rules import rule_ticks, rule_trip
from ringreads.texts import format_numbers
from ringreads.trips import fewest_ticks, least_trip, trip_count
from ringreads.words import number_of, pair_of

# What the words behind the name of a command tell, "nothing" if there are none.
KINDS = {
    "ring": "number", "records": "record", "mark": "number", "rounds": "nothing", "lap": "nothing", "laps": "nothing",
    "parts": "nothing", "ticks": "nothing", "trip": "nothing", "trips": "nothing", "rule": "rule", "late": "rule",
    "add": "record", "gap": "nothing", "pieces": "number",
}
WITH_SEVERAL = ("records", "pieces")


def value_of(kind, word):
    """What a word of a kind tells, None if it is no such word."""
    if kind == "number":
        return number_of(word)
    if kind == "record":
        return pair_of(word)
    return word if word in RULES else None


def parsed(command):
    """The tuple (name, values) of a command, or InvalidCommand for any other value."""
    if type(command) != str:
        raise InvalidCommand("a command is a string")
    words = command.split(" ")
    name, told = words[0], words[1:]
    if name not in KINDS:
        raise InvalidCommand("there is no command of this name")
    if not takes(name, len(told)):
        raise InvalidCommand("so many words cannot stand behind the name of the command")
    values = [value_of(KINDS[name], word) for word in told]
    if None in values:
        raise InvalidCommand("such a word cannot stand behind the name of the command")
    return name, values


def takes(name, many):
    """Whether so many words can stand behind the name of a command."""
    if KINDS[name] == "nothing":
        return many == 0
    return many == 1 or many > 1 and name in WITH_SEVERAL


def answer_of(name, marks, records):
    """The number or the list that a command tells of the records alone."""
    if name == "rounds":
        return fewest_rounds(marks, records)
    if name == "lap":
        return least_lap(marks, records)
    if name == "laps":
        return lap_count(marks, records)
    return len(parts(marks, records))


def answer_from(name, marks, records, mark):
    """The number or the list that a command tells of the records from a mark."""
    if name == "ticks":
        return fewest_ticks(marks, records, mark)
    if name == "trip":
        return least_trip(marks, records, mark)
    if name == "trips":
        return trip_count(marks, records, mark)
    return gap_at(marks, records, mark)


def answer_with(name, values, marks, records, mark):
    """The number or the list that a command with values tells."""
    if name == "rule":
        return rule_trip(marks, records, mark, values[0])
    if name == "late":
        return rule_ticks(marks, records, mark, values[0]) - fewest_ticks(marks, records, mark)
    if name == "add":
        return added_rounds(marks, records, values[0])
    return pieces_ticks(marks, records, values)


class Console:
    """A console, at first with 1 mark, the record (0, 1) and the mark 0."""

    def __init__(self):
        self._marks = 1
        self._rows = [(0, 1)]
        self._mark = 0

    def execute(self, command):
        """Run a command, and return the string that it tells."""
        name, values = parsed(command)
        if name in ("ring", "records", "mark"):
            self._set(name, values)
            return "ok"
        answer = self._answer(name, values)
        return format_numbers(answer) if type(answer) == list else str(answer)

    def _set(self, name, values):
        """Run a command that sets the ring, the records or the mark."""
        if name == "ring":
            check_marks(values[0])
            self._marks, self._rows, self._mark = values[0], [(0, 1)], 0
        elif name == "records":
            check_ring(self._marks, values)
            self._rows = values
        else:
            check_mark(self._marks, values[0])
            self._mark = values[0]

    def _answer(self, name, values):
        """The number or the list that any other command tells."""
        if values:
            return answer_with(name, values, self._marks, self._rows, self._mark)
        if name in ("rounds", "lap", "laps", "parts"):
            return answer_of(name, self._marks, self._rows)
        return answer_from(name, self._marks, self._rows, self._mark)
