"""How many laps have the fewest rounds, each of them by its index, and which records follow in them."""

from ringreads.chains import chained, chained_with
from ringreads.checks import check_between, check_few, check_lap, check_least, check_ring
from ringreads.errors import Impossible, InvalidNumber
from ringreads.orders import lap_rounds
from ringreads.rooms import fewest_of, has_lap
from ringreads.trees import laps_of

MOST_LISTED = 10


def lap_count(marks, records):
    """The number of the laps with the fewest rounds."""
    check_ring(marks, records)
    return laps_of(marks, records, fewest_of(marks, records))


def nth_lap(marks, records, index):
    """The lap with an index, ascending as lists, among those with the fewest rounds."""
    check_ring(marks, records)
    check_least(index, 0)
    check_few(records, MOST_LISTED)
    rounds = fewest_of(marks, records)
    if index >= laps_of(marks, records, rounds):
        raise InvalidNumber("there are not so many laps")
    order = [0]
    while len(order) < len(records):
        after, index = next_behind(next_counts(marks, records, order, rounds), index)
        order.append(after)
    return order


def lap_index(marks, records, order):
    """The index of a lap among those with the fewest rounds."""
    check_ring(marks, records)
    check_lap(records, order)
    check_few(records, MOST_LISTED)
    rounds = fewest_of(marks, records)
    if lap_rounds(marks, records, order) > rounds:
        raise Impossible("the lap has more rounds than the fewest")
    index = 0
    for at in range(1, len(order)):
        counts = next_counts(marks, records, order[:at], rounds)
        index += sum([count for after, count in counts if after < order[at]])
    return index


def next_counts(marks, records, order, rounds):
    """The ascending tuples (index, how many laps begin with the order and then read this index)."""
    chain = records[order[0]]
    for index in order[1:]:
        chain = chained(marks, chain, records[index])
    rest = [index for index in range(len(records)) if index not in order]
    return [(index, laps_of(marks, chained_with(marks, records, chain, rest, index), rounds)) for index in rest]


def next_behind(counts, index):
    """Which index comes next in the lap with an index, and the index of the lap among those that go on so."""
    at = 0
    while index >= counts[at][1]:
        index -= counts[at][1]
        at += 1
    return counts[at][0], index


def follow_count(marks, records, first, second):
    """In how many of the laps with the fewest rounds the second record is the next one behind the first one."""
    check_ring(marks, records)
    check_between(first, 0, len(records) - 1)
    check_between(second, 0, len(records) - 1)
    if first == second:
        raise Impossible("no record is the next one behind itself")
    return laps_of(marks, following(marks, records, first, second), fewest_of(marks, records))


def following(marks, records, first, second):
    """The records, with the second one read next behind the first one."""
    others = [index for index in range(len(records)) if index != first]
    return chained_with(marks, records, records[first], others, second)


def may_follow(marks, records):
    """The ascending list of tuples (first, second) that follow in some lap with the fewest rounds."""
    check_ring(marks, records)
    rounds = fewest_of(marks, records)
    many = len(records)
    return [(first, second) for first in range(many) for second in range(many)
            if first != second and has_lap(marks, following(marks, records, first, second), rounds)]


def must_follow(marks, records):
    """The ascending list of tuples (first, second) that follow in all laps with the fewest rounds."""
    pairs = may_follow(marks, records)
    firsts = [first for first, _ in pairs]
    # Each lap reads one record next behind the first one, so a pair is in all laps if no other pair has its first.
    return [(first, second) for first, second in pairs if firsts.count(first) == 1]
