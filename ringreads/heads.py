"""Several heads on a ring: what they can read in pieces, what they read whole, and laps with many heads."""

from ringreads.checks import check_between, check_heads, check_ring, is_ascending, is_list
from ringreads.errors import Impossible
from ringreads.passes import first_pass, piece_ends, pieces_of
from ringreads.rings import end_of, most_of
from ringreads.rooms import has_lap

MOST_MANY = 30


def pieces_ticks(marks, records, heads):
    """The fewest ticks in which heads can read all records in pieces of one arc each."""
    check_ring(marks, records)
    check_heads(marks, heads)
    return pieces_of(marks, records, heads)


def pieces_mark(marks, records, heads):
    """The least mark whose arc needs so many ticks."""
    ticks = pieces_ticks(marks, records, heads)
    return min([mark for mark, tick in piece_ends(marks, records, heads) if tick == ticks])


def heads_run(marks, records, heads):
    """For each record the tuple (head, tick) with which it is begun if free heads begin what they pass."""
    check_ring(marks, records)
    check_heads(marks, heads)
    free = [0] * len(heads)
    begun = [None] * len(records)
    for _ in records:
        tick, head, index = next_begun(marks, records, heads, free, begun)
        begun[index] = (head, tick)
        free[head] = tick + records[index][1]
    return begun


def next_begun(marks, records, heads, free, begun):
    """The tuple (tick, head, index) of the record that is begun next, by heads that are free from ticks on."""
    return min([(first_pass(marks, mark, record[0], free[head]), head, index)
                for head, mark in enumerate(heads)
                for index, record in enumerate(records) if begun[index] is None])


def heads_ticks(marks, records, heads):
    """The tick at which the last record ends in such a run."""
    begun = heads_run(marks, records, heads)
    return max([tick + length for (_, tick), (_, length) in zip(begun, records)])


def check_plan(marks, records, many):
    """Raise the error of a parameter, or Impossible if a record is longer than the ring."""
    check_ring(marks, records)
    check_between(many, 1, MOST_MANY)
    if max([length for _, length in records]) > marks:
        raise Impossible("a record is longer than the ring")


def across(marks, records, mark):
    """The ascending list of the indices of the records that lie across a mark."""
    return [index for index, (begin, length) in enumerate(records) if 1 <= (mark - begin) % marks <= length - 1]


def best_cut(marks, records):
    """A mark with the fewest records across it."""
    # They become fewer only where a record ends, so no mark has fewer than all ends have.
    ends = [end_of(marks, record) for record in records]
    return min([(len(across(marks, records, end)), end) for end in ends])[1]


def bounds_of(marks, records, many):
    """The tuple (low, high) of head_bounds."""
    most = most_of(marks, records)
    low = -(-most // many)
    crossing = len(across(marks, records, best_cut(marks, records)))
    if crossing == 0:
        return (low, low)
    return (low, -(-(most + crossing) // many) + 1)


def head_bounds(marks, records, many):
    """The tuple (low, high) of rounds within which many heads have laps for all records."""
    check_plan(marks, records, many)
    return bounds_of(marks, records, many)


def head_plan(marks, records, many):
    """For each of many heads an ascending list of the records it reads, with laps of at most high rounds."""
    check_plan(marks, records, many)
    cut = best_cut(marks, records)
    crossing = across(marks, records, cut)
    # No row lies over an arc twice, so the cover of what a head gets is at most the number of its rows. If nothing
    # crosses the cut, each row is read in one round from there on.
    rows = rows_behind(marks, records, cut, crossing) + [[index] for index in crossing]
    return [sorted([index for row in rows[head::many] for index in row]) for head in range(many)]


def rows_behind(marks, records, cut, crossing):
    """The fewest lists of records, those that cross a cut left out, that one round from the cut on can read each."""
    places = [((begin - cut) % marks, index) for index, (begin, _) in enumerate(records) if index not in crossing]
    rows = []
    ends = []
    for place, index in sorted(places):
        free = [at for at, end in enumerate(ends) if end <= place]
        if not free:
            free = [len(rows)]
            rows.append([])
            ends.append(0)
        rows[free[0]].append(index)
        ends[free[0]] = place + records[index][1]
    return rows


def shows_head_plan(marks, records, many, value):
    """Whether any value is a plan for many heads."""
    check_plan(marks, records, many)
    if not is_list(value, many, many) or not all([is_ascending(len(records), row) for row in value]):
        return False
    if sorted([index for row in value for index in row]) != list(range(len(records))):
        return False
    high = bounds_of(marks, records, many)[1]
    return all([has_lap(marks, [records[index] for index in row], high) for row in value])
