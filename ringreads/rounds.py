"""The fewest rounds of laps, the least such lap, and papers which show that fewer rounds are not enough."""

from ringreads.chains import least_behind
from ringreads.checks import check_least, check_ring, is_ascending, is_list, is_mark
from ringreads.rings import cover_of, covers_of, most_of
from ringreads.rooms import fewest_of, part_numbers, parts_of


def fewest_rounds(marks, records):
    """The fewest rounds of laps."""
    check_ring(marks, records)
    return fewest_of(marks, records)


def least_lap(marks, records):
    """The least list of the laps with the fewest rounds."""
    check_ring(marks, records)
    others = list(range(1, len(records)))
    return [0] + least_behind(marks, records, records[0], others, fewest_of(marks, records))


def parts(marks, records):
    """The ascending list of the parts for the greatest cover, each an ascending list of indices."""
    check_ring(marks, records)
    return parts_of(marks, records, most_of(marks, records))


def refusal(marks, records, rounds):
    """None if there is a lap with at most so many rounds, otherwise a paper that shows there is none."""
    check_ring(marks, records)
    check_least(rounds, 0)
    above = [mark for mark, cover in covers_of(marks, records) if cover > rounds]
    if above:
        return ("mark", above[0])
    found = parts_of(marks, records, rounds)
    if len(found) > 1:
        return ("split", found[0])
    return None


def shows_refusal(marks, records, rounds, value):
    """Whether any value is a paper that shows that there is no lap with at most so many rounds."""
    check_ring(marks, records)
    check_least(rounds, 0)
    if type(value) != tuple or len(value) != 2:
        return False
    kind, shown = value
    if kind == "mark":
        return is_mark(marks, shown) and cover_of(marks, records, shown) > rounds
    return kind == "split" and is_split(marks, records, rounds, shown)


def is_split(marks, records, rounds, value):
    """Whether any value is a list of some records, not all, that are in no part with one that is not in it."""
    many = len(records)
    if not is_list(value, 1, many - 1) or not is_ascending(many, value) or most_of(marks, records) > rounds:
        return False
    numbers = part_numbers(marks, records, rounds)
    inside = [numbers[index] for index in value]
    return not any([numbers[index] in inside for index in range(many) if index not in value])
