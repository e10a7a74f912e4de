"""Records that are read one behind the other as one long record. Nothing is checked here."""

from ringreads.orders import wait_between
from ringreads.rooms import has_lap


def chained(marks, record, after):
    """The long record that reads a record, waits for the one after it, and reads that one."""
    return (record[0], record[1] + wait_between(marks, record, after) + after[1])


def chained_with(marks, records, chain, rest, index):
    """The records of the rest of the indices, with the one of index read next behind the chain."""
    others = [records[other] for other in rest if other != index]
    return [chained(marks, chain, records[index])] + others


def least_behind(marks, records, chain, rest, rounds):
    """The least sequence of the rest of the indices that is behind the chain in laps of so many rounds."""
    order = []
    while rest:
        index = min([other for other in rest
                     if has_lap(marks, chained_with(marks, records, chain, rest, other), rounds)])
        chain = chained(marks, chain, records[index])
        rest = [other for other in rest if other != index]
        order.append(index)
    return order
