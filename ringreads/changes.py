"""How the fewest rounds change with a longer, a further, a missing or a cut record."""

from ringreads.checks import MOST_LENGTH, check_between, check_mark, check_record, check_ring
from ringreads.rings import end_of
from ringreads.rooms import fewest_of, has_lap


def longest_with(marks, others, begin, least, rounds):
    """The greatest length of a record from begin on that has laps of so many rounds with the others.

    The least length must be one that has, or no length, 0.
    """
    most = MOST_LENGTH
    # A longer record never makes the rounds fewer, so the lengths that have such laps end at one length.
    while least < most:
        length = (least + most + 1) // 2
        if has_lap(marks, others + [(begin, length)], rounds):
            least = length
        else:
            most = length - 1
    return least


def without(records, index):
    """The records without the one with an index."""
    return records[:index] + records[index + 1:]


def longest_length(marks, records, index):
    """The greatest length of the record with an index for which the fewest rounds stay as they are."""
    check_ring(marks, records)
    check_between(index, 0, len(records) - 1)
    begin, length = records[index]
    return longest_with(marks, without(records, index), begin, length, fewest_of(marks, records))


def gap_at(marks, records, mark):
    """The greatest length of a further record from a mark with which the fewest rounds stay as they are, or 0."""
    check_ring(marks, records)
    check_mark(marks, mark)
    return longest_with(marks, records, mark, 0, fewest_of(marks, records))


def added_rounds(marks, records, record):
    """How many more the fewest rounds are with one record more."""
    check_ring(marks, records)
    check_record(marks, record)
    return fewest_of(marks, records + [record]) - fewest_of(marks, records)


def saved_rounds(marks, records, index):
    """How many fewer the fewest rounds are without the record with an index."""
    check_ring(marks, records)
    check_between(index, 0, len(records) - 1)
    return fewest_of(marks, records) - fewest_of(marks, without(records, index))


def cut_saves(marks, records, index, length):
    """How many fewer the fewest rounds are if a record is cut in two, the first one with this length."""
    check_ring(marks, records)
    check_between(index, 0, len(records) - 1)
    begin, whole = records[index]
    check_between(length, 1, whole - 1)
    first = (begin, length)
    second = (end_of(marks, first), whole - length)
    return fewest_of(marks, records) - fewest_of(marks, without(records, index) + [first, second])
