"""The fewest ticks of trips from a mark, the least such trip, and how many there are."""

from ringreads.chains import least_behind
from ringreads.checks import check_mark, check_ring
from ringreads.rings import end_of
from ringreads.rooms import fewest_of
from ringreads.trees import laps_of


def bounds_of(marks, records, mark):
    """The ascending tuples (end, rounds, ticks) of all unlike ends of the records."""
    found = []
    for end in sorted(set([end_of(marks, record) for record in records])):
        rounds = fewest_of(marks, records + way_back(marks, end, mark))
        found.append((end, rounds, rounds * marks - (mark - end) % marks))
    return found


def way_back(marks, end, mark):
    """A list of the record that leads from an end back to a mark, an empty one if the end is there."""
    return [] if end == mark else [(end, (mark - end) % marks)]


def ticks_of(marks, records, mark):
    """The fewest ticks of trips from a mark."""
    return min([ticks for _, _, ticks in bounds_of(marks, records, mark)])


def fewest_bound(marks, records, mark):
    """The tuple (end, rounds) of the bound with the fewest ticks."""
    # No other end has as many ticks, as a head ends a trip of so many ticks from the mark at just one mark.
    ticks = ticks_of(marks, records, mark)
    end = (mark + ticks) % marks
    return end, (ticks + (mark - end) % marks) // marks


def trip_bounds(marks, records, mark):
    """The ascending list of tuples (end, rounds, ticks), one for each unlike end of a record."""
    check_ring(marks, records)
    check_mark(marks, mark)
    return bounds_of(marks, records, mark)


def fewest_ticks(marks, records, mark):
    """The fewest ticks of trips from a mark."""
    check_ring(marks, records)
    check_mark(marks, mark)
    return ticks_of(marks, records, mark)


def least_trip(marks, records, mark):
    """The least list of the trips from a mark with the fewest ticks."""
    check_ring(marks, records)
    check_mark(marks, mark)
    end, rounds = fewest_bound(marks, records, mark)
    # The way back comes first as a record, of length 0 too: then the trip goes on to the end and nothing is behind it.
    return least_behind(marks, records, (end, (mark - end) % marks), list(range(len(records))), rounds)


def trip_count(marks, records, mark):
    """How many trips from a mark have the fewest ticks."""
    check_ring(marks, records)
    check_mark(marks, mark)
    end, rounds = fewest_bound(marks, records, mark)
    if end != mark:
        return laps_of(marks, records + way_back(marks, end, mark), rounds)
    # Each lap becomes a trip behind each of its records that ends at the mark.
    ending = [record for record in records if end_of(marks, record) == mark]
    return laps_of(marks, records, rounds) * len(ending)


def best_begins(marks, records):
    """The ascending list of the unlike begins of records from which the fewest ticks are least of all."""
    check_ring(marks, records)
    ticks = {begin: ticks_of(marks, records, begin) for begin, _ in records}
    fewest = min(list(ticks.values()))
    return [begin for begin in sorted(ticks) if ticks[begin] == fewest]
