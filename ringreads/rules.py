"""The trips that simple rules make."""

from ringreads.checks import check_mark, check_ring, check_rule
from ringreads.orders import trip_ticks
from ringreads.rings import end_of

# For the rules that go on to the next begin: what a tick of length counts among records with one begin.
WEIGHTS = {"nearest": 0, "longest": -1, "shortest": 1}


def rule_trip(marks, records, mark, rule):
    """The trip from a mark that a rule makes."""
    check_ring(marks, records)
    check_mark(marks, mark)
    check_rule(rule)
    if rule == "listed":
        return list(range(len(records)))
    if rule == "brief":
        return [index for _, index in sorted([(record[1], index) for index, record in enumerate(records)])]
    return passing_trip(marks, records, mark, WEIGHTS[rule])


def passing_trip(marks, records, mark, weight):
    """The trip that always goes on to the record whose begin comes first, of several to the one of least weight."""
    trip = []
    while len(trip) < len(records):
        waits = [((begin - mark) % marks, length * weight, index)
                 for index, (begin, length) in enumerate(records) if index not in trip]
        chosen = min(waits)[2]
        trip.append(chosen)
        mark = end_of(marks, records[chosen])
    return trip


def rule_ticks(marks, records, mark, rule):
    """The ticks of the trip from a mark that a rule makes."""
    return trip_ticks(marks, records, mark, rule_trip(marks, records, mark, rule))
