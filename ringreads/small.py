"""What only few records let us tell: all their laps and trips, and the best ways to read them whole."""

from itertools import combinations, permutations

from ringreads.checks import check_arrivals, check_few, check_heads, check_least, check_mark, check_marks, check_ring
from ringreads.orders import end_tick
from ringreads.passes import first_pass
from ringreads.rooms import has_lap

MOST_LISTED = 7
MOST_CHOSEN = 10
MOST_DEALT = 5
MOST_DEALT_HEADS = 3
MOST_COMING = 6


def tallied(numbers):
    """The ascending tuples (number, how often it stands in the list)."""
    counts = {}
    for number in numbers:
        counts[number] = counts.get(number, 0) + 1
    return [(number, counts[number]) for number in sorted(counts)]


def lap_table(marks, records):
    """The ascending tuples (rounds, how many laps have so many)."""
    check_ring(marks, records)
    check_few(records, MOST_LISTED)
    begin = records[0][0]
    ends = [end_tick(marks, records, begin, (0,) + rest) for rest in permutations(range(1, len(records)))]
    return tallied([-(-end // marks) for end in ends])


def trip_table(marks, records, mark):
    """The ascending tuples (ticks, how many trips from the mark have so many)."""
    check_ring(marks, records)
    check_mark(marks, mark)
    check_few(records, MOST_LISTED)
    return tallied([end_tick(marks, records, mark, order) for order in permutations(range(len(records)))])


def most_kept(marks, records, rounds):
    """The longest ascending list of indices whose records have a lap of so many rounds, the least of several."""
    check_ring(marks, records)
    check_least(rounds, 0)
    check_few(records, MOST_CHOSEN)
    for many in range(len(records), 0, -1):
        for kept in combinations(range(len(records)), many):
            if has_lap(marks, [records[index] for index in kept], rounds):
                return list(kept)
    return []


def soonest_ends(marks, mark, arrivals):
    """For each choice of arrivals the fewest ticks at which a head can have read these.

    A choice is a number whose bit with an index tells whether the arrival with this index is in it.
    """
    ends = [0]
    for choice in range(1, 1 << len(arrivals)):
        # Behind an earlier end no record begins later, so what comes ahead of the last record is read the soonest, too.
        ends.append(min([first_pass(marks, mark, begin, max(ends[choice - (1 << index)], come)) + length
                         for index, (begin, length, come) in enumerate(arrivals) if choice & (1 << index)]))
    return ends


def whole_ticks(marks, records, heads):
    """The fewest ticks at which heads can have read all records whole, each by one head."""
    check_ring(marks, records)
    check_heads(marks, heads)
    check_few(records, MOST_DEALT)
    check_few(heads, MOST_DEALT_HEADS)
    arrivals = [(begin, length, 0) for begin, length in records]
    best = soonest_ends(marks, heads[0], arrivals)
    for head in heads[1:]:
        best = shared_ends(best, soonest_ends(marks, head, arrivals))
    return best[-1]


def shared_ends(ends, others):
    """For each choice of arrivals the fewest ticks if some heads read a part of it and another head the others."""
    return [min([max(ends[choice - part], others[part]) for part in range(choice + 1) if choice & part == part])
            for choice in range(len(ends))]


def hindsight_ticks(marks, mark, arrivals):
    """The fewest ticks at which one head can have read all arrivals."""
    check_marks(marks)
    check_mark(marks, mark)
    check_arrivals(marks, arrivals)
    check_few(arrivals, MOST_COMING)
    return soonest_ends(marks, mark, arrivals)[-1]
