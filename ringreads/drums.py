"""Live drums: rings with one head, which reads records that are added while time goes on."""

from ringreads.checks import MOST_TICK, check_between, check_mark, check_marks, check_record
from ringreads.errors import NothingToUndo, Refused, TooLarge
from ringreads.passes import first_pass

MOST_ADDED = 100


class Drum:
    """A ring with one head, which begins what it passes whenever it reads nothing."""

    def __init__(self, marks, mark):
        check_marks(marks)
        check_mark(marks, mark)
        self._marks = marks
        self._start = mark
        self._tick = 0
        self._rows = []
        # For each record the tick at which it was begun, None if it was not.
        self._begun = []
        # What makes drums equal, and what can be reverted: the arguments, and the calls that are not reverted.
        self._given = (marks, mark)
        self._calls = []

    @property
    def marks(self):
        """The number of the marks."""
        return self._marks

    @property
    def tick(self):
        """How many ticks have passed."""
        return self._tick

    @property
    def mark(self):
        """Where the head is."""
        return (self._start + self._tick) % self._marks

    @property
    def waiting(self):
        """The ascending list of the numbers of the records that are not begun."""
        return [number for number, tick in enumerate(self._begun) if tick is None]

    @property
    def reading(self):
        """The number of the record that is begun and has not ended, None if there is none."""
        found = [number for number, end in enumerate(self._ends()) if end is not None and end > self._tick]
        return found[0] if found else None

    @property
    def done(self):
        """The ascending list of the numbers of the records that have ended."""
        return [number for number, end in enumerate(self._ends()) if end is not None and end <= self._tick]

    def _ends(self):
        """For each record the tick at which it ends, None if it is not begun."""
        return [None if tick is None else tick + row[1] for tick, row in zip(self._begun, self._rows)]

    def _check_add(self, begin, length):
        """Raise the error of a further record."""
        check_record(self._marks, (begin, length))
        if len(self._rows) >= MOST_ADDED:
            raise TooLarge(MOST_ADDED)

    def add(self, begin, length):
        """Add a record now, and return its number."""
        self._check_add(begin, length)
        self._rows.append((begin, length))
        self._begun.append(None)
        self._calls.append(("add", begin, length))
        return len(self._rows) - 1

    def go(self, ticks):
        """Let so many ticks pass, and return the ascending list of the numbers of the records that end in them."""
        check_between(ticks, 1, MOST_TICK)
        before = self._tick
        self._tick += ticks
        self._calls.append(("go", ticks))
        self._read_from(max([before] + [end for end in self._ends() if end is not None]))
        return [number for number, end in enumerate(self._ends()) if end is not None and before < end <= self._tick]

    def _read_from(self, free):
        """Begin all records that the head, which reads nothing from a tick on, begins ahead of now."""
        comes = self._coming(free)
        # What the head comes to just now is begun when time goes on.
        while comes and comes[0] < self._tick:
            tick, number = comes
            self._begun[number] = tick
            comes = self._coming(tick + self._rows[number][1])

    def _coming(self, free):
        """The tuple (tick, number) of the record that is begun next from a tick on, None if none waits."""
        choice = self._choice()
        if not choice:
            return None
        return min([(first_pass(self._marks, self._start, self._rows[number][0], free), number) for number in choice])

    def _choice(self):
        """The ascending list of the numbers of those records of which the next one is begun."""
        return self.waiting

    def undo(self):
        """Revert the last call of add or go that is not reverted."""
        if not self._calls:
            raise NothingToUndo("no call is left to be reverted")
        call = self._calls.pop()
        if call[0] == "add":
            self._rows.pop()
            self._begun.pop()
        else:
            self._tick -= call[1]
            # Whatever was begun ahead of the call was begun ahead of its first tick.
            self._begun = [tick if tick is not None and tick < self._tick else None for tick in self._begun]

    def begin_of(self, number):
        """The tick at which a record was begun, None if it was not."""
        check_between(number, 0, len(self._rows) - 1)
        return self._begun[number]

    def twin(self):
        """A drum of the same class in the same state that can revert the same calls."""
        return self._copied(Drum(self._marks, self._start))

    def _copied(self, other):
        """Give a new drum the state of this one, and return it."""
        other._tick = self._tick
        other._rows = list(self._rows)
        other._begun = list(self._begun)
        other._calls = list(self._calls)
        return other

    def described(self):
        """The list of strings that tell the tick, and how many records are waiting and done."""
        return [f"tick {self._tick}", f"waiting {len(self.waiting)}", f"done {len(self.done)}"]

    def __len__(self):
        return len(self._rows)

    def __eq__(self, other):
        return type(self) is type(other) and self._given == other._given and self._calls == other._calls


class ListedDrum(Drum):
    """A drum that reads by ascending numbers."""

    def __init__(self, marks, mark):
        super().__init__(marks, mark)

    def _choice(self):
        return self.waiting[:1]

    def twin(self):
        """A drum of the same class in the same state that can revert the same calls."""
        return self._copied(ListedDrum(self._marks, self._start))


class CountingDrum(Drum):
    """A drum that counts the ticks in which the head has read nothing."""

    def __init__(self, marks, mark):
        super().__init__(marks, mark)

    @property
    def idle(self):
        """In how many ticks the head has read nothing."""
        ends = self._ends()
        read = [min(end, self._tick) - tick for tick, end in zip(self._begun, ends) if tick is not None]
        return self._tick - sum(read)

    def described(self):
        """The list of strings that tell the same as those of a Drum, and the idle ticks."""
        return super().described() + [f"idle {self.idle}"]

    def twin(self):
        """A drum of the same class in the same state that can revert the same calls."""
        return self._copied(CountingDrum(self._marks, self._start))


class ListedCountingDrum(ListedDrum, CountingDrum):
    """A drum that reads by ascending numbers and counts the ticks in which the head has read nothing."""

    def __init__(self, marks, mark):
        super().__init__(marks, mark)

    def twin(self):
        """A drum of the same class in the same state that can revert the same calls."""
        return self._copied(ListedCountingDrum(self._marks, self._start))


class BudgetDrum(Drum):
    """A drum that takes no further record while as many as its budget are waiting."""

    def __init__(self, marks, mark, most):
        super().__init__(marks, mark)
        check_between(most, 1, MOST_ADDED)
        self._most = most
        self._given = (marks, mark, most)

    def add(self, begin, length):
        """Add a record now, unless too many are waiting, and return its number."""
        self._check_add(begin, length)
        count = len(self.waiting)
        if count >= self._most:
            raise Refused(count)
        return super().add(begin, length)

    def twin(self):
        """A drum of the same class in the same state that can revert the same calls."""
        return self._copied(BudgetDrum(self._marks, self._start, self._most))
