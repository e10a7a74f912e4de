"""Where the head is after very many laps."""

from ringreads.checks import check_between, check_lap, check_ring
from ringreads.orders import begins_of, lap_rounds

MOST_TIMES = 10 ** 30
LAST_TICK = 10 ** 64 - 1


def begin_tick(marks, records, order, number, index):
    """The tick at which the record with an index is begun for the time with a number."""
    check_ring(marks, records)
    check_lap(records, order)
    check_between(number, 0, MOST_TIMES)
    check_between(index, 0, len(records) - 1)
    begins = begins_of(marks, records, records[0][0], order)
    return number * lap_rounds(marks, records, order) * marks + begins[order.index(index)]


def at_tick(marks, records, order, tick):
    """A tuple: whether the head reads or waits in a tick, which record is read or comes next, for which time."""
    check_ring(marks, records)
    check_lap(records, order)
    check_between(tick, 0, LAST_TICK)
    number, rest = divmod(tick, lap_rounds(marks, records, order) * marks)
    begins = begins_of(marks, records, records[0][0], order)
    at = max([place for place, begin in enumerate(begins) if begin <= rest])
    if rest < begins[at] + records[order[at]][1]:
        return ("read", order[at], number)
    if at + 1 < len(order):
        return ("wait", order[at + 1], number)
    return ("wait", order[0], number + 1)
