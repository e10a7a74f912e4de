"""What the parameters of the functions must be, and the errors if they are not."""

from ringreads.errors import InvalidArrivals, InvalidHeads, InvalidMark, InvalidMarks, InvalidNumber, InvalidOrder
from ringreads.errors import InvalidRecord, InvalidRecords, InvalidRule, InvalidWindows, TooLarge

MOST_MARKS = 10 ** 30
MOST_LENGTH = 10 ** 31
MOST_TICK = 10 ** 31
MOST_RECORDS = 30
MOST_HEADS = 6
RULES = ("nearest", "longest", "shortest", "listed", "brief")


def is_integer(value):
    """Whether any value is an integer, which a bool is not."""
    return isinstance(value, int) and not isinstance(value, bool)


def is_between(value, least, most):
    """Whether any value is an integer from least to most."""
    return is_integer(value) and least <= value <= most


def is_from(value, least):
    """Whether any value is an integer from least on."""
    return is_integer(value) and value >= least


def is_list(value, least, most):
    """Whether any value is a list of least to most items."""
    return type(value) == list and least <= len(value) <= most


def is_mark(marks, value):
    """Whether any value is a mark of the ring."""
    return is_between(value, 0, marks - 1)


def is_record(marks, value):
    """Whether any value is a record of the ring."""
    if type(value) != tuple or len(value) != 2:
        return False
    begin, length = value
    return is_mark(marks, begin) and is_between(length, 1, MOST_LENGTH)


def is_arrival(marks, value):
    """Whether any value is an arrival on the ring."""
    if type(value) != tuple or len(value) != 3:
        return False
    return is_record(marks, value[:2]) and is_between(value[2], 0, MOST_TICK)


def is_window(marks, value):
    """Whether any value is a window of the ring."""
    if type(value) != tuple or len(value) != 3:
        return False
    mark, first, last = value
    return is_mark(marks, mark) and is_between(first, 0, MOST_TICK) and is_between(last, first, MOST_TICK)


def is_ascending(many, value):
    """Whether any value is an ascending list of indices below many."""
    if type(value) != list or not all([is_between(item, 0, many - 1) for item in value]):
        return False
    return all([item < after for item, after in zip(value, value[1:])])


def is_new_index(many, items, at):
    """Whether the item at a place is an index below many that stands nowhere earlier."""
    # The kind comes first: True and 1 are equal, and an item can be any value.
    return is_between(items[at], 0, many - 1) and items[at] not in items[:at]


def check_marks(marks):
    """Raise InvalidMarks unless a ring can have so many marks."""
    if not is_between(marks, 1, MOST_MARKS):
        raise InvalidMarks("marks must be an integer from 1 to 10 ** 30")


def check_ring(marks, records):
    """Raise the error of marks or of records unless these are records of the ring."""
    check_marks(marks)
    if not is_list(records, 1, MOST_RECORDS):
        raise InvalidRecords(None)
    for index, record in enumerate(records):
        if not is_record(marks, record):
            raise InvalidRecords(index)


def check_mark(marks, mark):
    """Raise InvalidMark unless this is a mark of the ring."""
    if not is_mark(marks, mark):
        raise InvalidMark("mark must be an integer from 0 to marks - 1")


def check_record(marks, record):
    """Raise InvalidRecord unless this is a record of the ring."""
    if not is_record(marks, record):
        raise InvalidRecord("record must be a tuple of a mark and a length from 1 to 10 ** 31")


def check_heads(marks, heads):
    """Raise InvalidHeads unless this is a list of heads on the ring."""
    if not is_list(heads, 1, MOST_HEADS):
        raise InvalidHeads(None)
    for index, head in enumerate(heads):
        if not is_mark(marks, head):
            raise InvalidHeads(index)


def check_rule(rule):
    """Raise InvalidRule unless this is the name of a rule."""
    if type(rule) != str or rule not in RULES:
        raise InvalidRule("rule must be nearest, longest, shortest, listed or brief")


def check_arrivals(marks, arrivals):
    """Raise InvalidArrivals unless this is a list of arrivals on the ring."""
    if not is_list(arrivals, 1, MOST_RECORDS):
        raise InvalidArrivals(None)
    for index, arrival in enumerate(arrivals):
        if not is_arrival(marks, arrival):
            raise InvalidArrivals(index)


def check_windows(marks, windows):
    """Raise InvalidWindows unless this is a list of windows of the ring."""
    if not is_list(windows, 1, MOST_RECORDS):
        raise InvalidWindows(None)
    for index, window in enumerate(windows):
        if not is_window(marks, window):
            raise InvalidWindows(index)


def check_integer(number):
    """Raise InvalidNumber unless this is an integer."""
    if not is_integer(number):
        raise InvalidNumber("the number must be an integer")


def check_least(number, least):
    """Raise InvalidNumber unless this is an integer from least on."""
    if not is_from(number, least):
        raise InvalidNumber(f"the number must be an integer from {least} on")


def check_between(number, least, most):
    """Raise InvalidNumber unless this is an integer from least to most."""
    if not is_between(number, least, most):
        raise InvalidNumber(f"the number must be an integer from {least} to {most}")


def check_few(items, most):
    """Raise TooLarge if there are more items than most."""
    if len(items) > most:
        raise TooLarge(most)


def check_trip(records, order):
    """Raise InvalidOrder unless this is a trip of the records."""
    many = len(records)
    if not is_list(order, many, many):
        raise InvalidOrder(None)
    for at in range(many):
        if not is_new_index(many, order, at):
            raise InvalidOrder(at)


def check_lap(records, order):
    """Raise InvalidOrder unless this is a lap of the records."""
    many = len(records)
    if is_list(order, many, many) and order[0] != 0:
        raise InvalidOrder(0)
    check_trip(records, order)
