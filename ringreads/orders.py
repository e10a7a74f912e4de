"""Laps, which read all records again and again, and trips, which read them once from a mark on."""

from ringreads.checks import check_lap, check_mark, check_ring, check_trip, is_list, is_new_index
from ringreads.passes import first_pass
from ringreads.rings import end_of


def is_order(many, value):
    """Whether any value is a list of the indices below many, each once, in any sequence."""
    return is_list(value, many, many) and all([is_new_index(many, value, at) for at in range(many)])


def wait_between(marks, record, after):
    """How many ticks a head waits behind a record until the begin of the one after it comes."""
    return (after[0] - end_of(marks, record)) % marks


def begins_of(marks, records, mark, order):
    """The list of the ticks at which a trip from a mark begins its records, in its sequence."""
    begins = []
    tick = 0
    for index in order:
        begin, length = records[index]
        tick = first_pass(marks, mark, begin, tick)
        begins.append(tick)
        tick += length
    return begins


def end_tick(marks, records, mark, order):
    """The tick at which a trip from a mark ends."""
    return begins_of(marks, records, mark, order)[-1] + records[order[-1]][1]


def is_lap(marks, records, value):
    """Whether any value is a lap: a list of all indices of the records, each once, 0 first."""
    check_ring(marks, records)
    return is_order(len(records), value) and value[0] == 0


def is_trip(marks, records, value):
    """Whether any value is a trip: a list of all indices of the records, each once."""
    check_ring(marks, records)
    return is_order(len(records), value)


def lap_waits(marks, records, order):
    """The list of the waits behind each record of a lap, in the sequence of the lap."""
    check_ring(marks, records)
    check_lap(records, order)
    afters = order[1:] + order[:1]
    return [wait_between(marks, records[index], records[after]) for index, after in zip(order, afters)]


def lap_rounds(marks, records, order):
    """The rounds of a lap."""
    waited = sum(lap_waits(marks, records, order))
    return (waited + sum([length for _, length in records])) // marks


def mirrored_lap(marks, records, order):
    """The lap that reads the mirrored records the other way round."""
    check_ring(marks, records)
    check_lap(records, order)
    return order[:1] + order[:0:-1]


def trip_begins(marks, records, mark, order):
    """The list of the ticks at which a trip from a mark begins its records, in its sequence."""
    check_ring(marks, records)
    check_mark(marks, mark)
    check_trip(records, order)
    return begins_of(marks, records, mark, order)


def trip_ticks(marks, records, mark, order):
    """The ticks of a trip from a mark: those until the end of its last record."""
    check_ring(marks, records)
    check_mark(marks, mark)
    check_trip(records, order)
    return end_tick(marks, records, mark, order)
