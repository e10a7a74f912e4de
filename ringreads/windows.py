"""Records of length 1 that are to be read in windows of ticks, and jams that leave too few passes for them."""

from ringreads.checks import check_heads, check_marks, check_windows, is_between, is_from, is_list, is_mark
from ringreads.passes import first_pass, passes_in


def check_asked(marks, heads, windows):
    """Raise the error of the first wrong parameter."""
    check_marks(marks)
    check_heads(marks, heads)
    check_windows(marks, windows)


def next_pass(marks, heads, mark, tick):
    """The first tick, from a tick on, at which a head passes a mark."""
    return min([first_pass(marks, head, mark, tick) for head in heads])


def free_pass(marks, heads, mark, tick, taken):
    """The first tick, from a tick on, at which a mark is passed by more heads than have been taken then."""
    tick = next_pass(marks, heads, mark, tick)
    while taken.count((mark, tick)) >= passes_in(marks, heads, mark, tick, tick):
        tick = next_pass(marks, heads, mark, tick + 1)
    return tick


def window_ticks(marks, heads, windows):
    """A list of ticks, one in each window, at which the heads can read all their records, or None."""
    check_asked(marks, heads, windows)
    ticks = [None] * len(windows)
    taken = []
    # The windows that end first choose first. If one finds no free pass, the passes from the last free one ahead of it
    # on are all taken by windows that begin and end among them, so there is a jam.
    for last, index in sorted([(window[2], index) for index, window in enumerate(windows)]):
        mark, first, _ = windows[index]
        tick = free_pass(marks, heads, mark, first, taken)
        if tick > last:
            return None
        ticks[index] = tick
        taken.append((mark, tick))
    return ticks


def shows_ticks(marks, heads, windows, value):
    """Whether any value is such a list of ticks."""
    check_asked(marks, heads, windows)
    if not is_list(value, len(windows), len(windows)):
        return False
    if not all([is_between(tick, first, last) for tick, (_, first, last) in zip(value, windows)]):
        return False
    taken = [(window[0], tick) for tick, window in zip(value, windows)]
    return all([taken.count((mark, tick)) <= passes_in(marks, heads, mark, tick, tick) for mark, tick in taken])


def is_jam(marks, heads, windows, mark, first, last):
    """Whether more windows of a mark lie within the ticks first to last than heads pass it in these ticks."""
    within = [index for index, (other, begin, end) in enumerate(windows)
              if other == mark and first <= begin and end <= last]
    return len(within) > passes_in(marks, heads, mark, first, last)


def jam(marks, heads, windows):
    """A tuple (mark, first, last) of ticks in which a mark has more windows than passes, or None."""
    check_asked(marks, heads, windows)
    # A jam stays one if its ticks are narrowed to those of the windows within it.
    for mark, first, _ in windows:
        for other, _, last in windows:
            if other == mark and is_jam(marks, heads, windows, mark, first, last):
                return (mark, first, last)
    return None


def shows_jam(marks, heads, windows, value):
    """Whether any value is such a tuple."""
    check_asked(marks, heads, windows)
    if type(value) != tuple or len(value) != 3:
        return False
    mark, first, last = value
    if not is_mark(marks, mark) or not is_from(first, 0) or not is_from(last, first):
        return False
    return is_jam(marks, heads, windows, mark, first, last)
