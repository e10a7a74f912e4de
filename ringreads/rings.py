"""Records on a ring: their ends, how often they lie over an arc, and how they are moved."""

from ringreads.checks import MOST_LENGTH, MOST_MARKS, MOST_RECORDS, is_list, is_record
from ringreads.checks import check_integer, check_least, check_mark, check_marks, check_ring
from ringreads.errors import Impossible


def end_of(marks, record):
    """The mark at which a record ends."""
    begin, length = record
    return (begin + length) % marks


def times_over(marks, record, mark):
    """How often a record lies over the arc from a mark on."""
    begin, length = record
    if (mark - begin) % marks < length % marks:
        return length // marks + 1
    return length // marks


def cover_of(marks, records, mark):
    """How often records lie over the arc from a mark on, all together."""
    return sum([times_over(marks, record, mark) for record in records])


def covers_of(marks, records):
    """The ascending list of tuples (mark, cover) for all marks at which a record begins or ends."""
    cover = 0
    changes = {}
    for record in records:
        begin, length = record
        end = end_of(marks, record)
        changes[begin] = changes.get(begin, 0) + 1
        changes[end] = changes.get(end, 0) - 1
        # The cover ahead of the first change is that of the arc which leads to the mark 0.
        cover += length // marks + (1 if end < begin else 0)
    found = []
    for mark in sorted(changes):
        cover += changes[mark]
        found.append((mark, cover))
    return found


def most_of(marks, records):
    """The greatest cover of an arc."""
    # The cover changes only where a record begins or ends, so no other arc has a greater one.
    return max([cover for _, cover in covers_of(marks, records)])


def is_records(marks, value):
    """Whether any value is a list of 1 to 30 records of the ring."""
    check_marks(marks)
    return is_list(value, 1, MOST_RECORDS) and all([is_record(marks, item) for item in value])


def ends_of(marks, records):
    """The list of the ends of the records."""
    check_ring(marks, records)
    return [end_of(marks, record) for record in records]


def cover_at(marks, records, mark):
    """The cover of the arc from a mark on."""
    check_ring(marks, records)
    check_mark(marks, mark)
    return cover_of(marks, records, mark)


def covers(marks, records):
    """The ascending list of tuples (mark, cover) for all marks at which a record begins or ends."""
    check_ring(marks, records)
    return covers_of(marks, records)


def most_cover(marks, records):
    """The greatest cover of an arc."""
    check_ring(marks, records)
    return most_of(marks, records)


def moved(marks, records, by):
    """The records, each from a mark on that lies by marks further."""
    check_ring(marks, records)
    check_integer(by)
    return [((begin + by) % marks, length) for begin, length in records]


def mirrored(marks, records):
    """The records as they are read if the ring turns the other way."""
    check_ring(marks, records)
    return [(-end_of(marks, record) % marks, record[1]) for record in records]


def multiplied(marks, records, factor):
    """The records on a ring with factor times as many marks, begins and lengths times factor."""
    check_ring(marks, records)
    check_least(factor, 1)
    longest = max([length for _, length in records])
    if marks * factor > MOST_MARKS or longest * factor > MOST_LENGTH:
        raise Impossible("the marks or a length would be too great")
    return [(begin * factor, length * factor) for begin, length in records]
