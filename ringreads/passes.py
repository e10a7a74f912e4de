"""The ticks at which heads pass marks and the arcs behind them. Nothing is checked here."""

from ringreads.rings import cover_of, covers_of


def first_pass(marks, head, mark, tick):
    """The first tick, from a tick on, at which a head that is at the mark `head` at tick 0 passes a mark."""
    # At a tick the head is at the mark (head + tick) % marks, whether it reads or waits.
    return tick + (mark - head - tick) % marks


def nth_pass(marks, heads, mark, times):
    """The tick at which any heads pass a mark for the time with a number, 1 being the first time."""
    firsts = sorted([first_pass(marks, head, mark, 0) for head in heads])
    rounds, at = divmod(times - 1, len(heads))
    return rounds * marks + firsts[at]


def passes_in(marks, heads, mark, first, last):
    """How often heads pass a mark in the ticks first to last, all together."""
    starts = [first_pass(marks, head, mark, first) for head in heads]
    return sum([(last - start) // marks + 1 for start in starts if start <= last])


def piece_ends(marks, records, heads):
    """The ascending tuples (mark, tick) of arcs and of when the last piece of each can end, the latest among them."""
    # From an arc to the next one the tick is one more, unless the cover changes there or a head is there at tick 0.
    borders = [mark for mark, _ in covers_of(marks, records)] + heads
    found = []
    for mark in sorted(set([(border - 1) % marks for border in borders])):
        cover = cover_of(marks, records, mark)
        if cover > 0:
            found.append((mark, nth_pass(marks, heads, mark, cover) + 1))
    return found


def pieces_of(marks, records, heads):
    """The fewest ticks in which heads can read all records in pieces of one arc each."""
    return max([tick for _, tick in piece_ends(marks, records, heads)])
