"""Records that arrive over time, and a game of arrivals that no rule plays well."""

from ringreads.checks import check_arrivals, check_between, check_least, check_mark, check_marks
from ringreads.errors import Impossible
from ringreads.passes import first_pass, pieces_of

MOST_GAME = 10


def check_start(marks, mark, arrivals):
    """Raise the error of the first wrong parameter."""
    check_marks(marks)
    check_mark(marks, mark)
    check_arrivals(marks, arrivals)


def arrival_run(marks, mark, arrivals):
    """For each arrival the tick at which it is begun if the head begins what it passes whenever it reads nothing."""
    check_start(marks, mark, arrivals)
    free = 0
    begun = [None] * len(arrivals)
    for _ in arrivals:
        tick, index = next_begun(marks, mark, arrivals, free, begun)
        begun[index] = tick
        free = tick + arrivals[index][1]
    return begun


def next_begun(marks, mark, arrivals, free, begun):
    """The tuple (tick, index) of the arrival that is begun next by a head that is free from a tick on."""
    return min([(first_pass(marks, mark, begin, max(free, come)), index)
                for index, (begin, _, come) in enumerate(arrivals) if begun[index] is None])


def arrival_ticks(marks, mark, arrivals):
    """The tick at which the last arrival ends in such a run."""
    begun = arrival_run(marks, mark, arrivals)
    return max([tick + arrival[1] for tick, arrival in zip(begun, arrivals)])


def arrival_bound(marks, mark, arrivals):
    """A tick ahead of which no way to read the arrivals ends."""
    check_start(marks, mark, arrivals)
    return max([bound_from(marks, mark, arrivals, arrival[2]) for arrival in arrivals])


def bound_from(marks, mark, arrivals, tick):
    """The same for those arrivals alone that come at a tick or later, read in pieces."""
    records = [(begin, length) for begin, length, come in arrivals if come >= tick]
    return tick + pieces_of(marks, records, [(mark + tick) % marks])


def check_game(marks):
    """Raise Impossible unless the game can be played on a ring of so many marks."""
    if marks < 3:
        raise Impossible("the game needs a ring of at least 3 marks")


def check_turn(marks, many, first, second):
    """Raise the error of the first wrong parameter, or Impossible if there is no such turn of the game."""
    check_marks(marks)
    check_between(many, 1, MOST_GAME)
    check_least(first, 0)
    check_least(second, 0)
    check_game(marks)
    if first + second > many:
        raise Impossible("so many records cannot have been begun")


def forcing_start(marks, many):
    """The arrivals of the first turn: many of each kind, those of the first kind first."""
    check_marks(marks)
    check_between(many, 1, MOST_GAME)
    check_game(marks)
    return [(0, 2, 0)] * many + [(1, 2, 0)] * many


def forcing_more(marks, many, first, second):
    """The arrivals of the second turn, if so many of the first and of the second kind have been begun."""
    check_turn(marks, many, first, second)
    if first <= second:
        return [(0, 1, many * marks)] * many
    return [(2, 1, many * marks)] * many


def forced_ticks(marks, many, first, second):
    """A tuple: the ticks at which the rule ends at least, and the fewest ticks in hindsight."""
    check_turn(marks, many, first, second)
    fewest = (2 * many - 1) * marks + 3
    if first <= second:
        return ((many + 2 * many - first - 1) * marks + 1, fewest)
    return ((many + 2 * many - second - 1) * marks + 3, fewest)
