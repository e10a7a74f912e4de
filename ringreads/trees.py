"""How many laps there are, by trees of arrows between marks. Nothing is checked here."""

from math import factorial

from ringreads.rings import covers_of, end_of


def determinant(rows):
    """The determinant of the rows of integers that tell of trees of arrows."""
    before = 1
    while rows:
        corner = rows[0][0]
        # For such rows a corner of 0 means that some marks have no way to the given one, so there is no tree.
        if corner == 0:
            return 0
        # Each division leaves no rest, as its result is a determinant of some of the first rows and columns.
        rows, before = [reduced(row, rows[0], before) for row in rows[1:]], corner
    return before


def reduced(row, top, before):
    """A row without its first item, less so much of the top row that this item would be 0."""
    return [(item * top[0] - row[0] * over) // before for item, over in zip(row[1:], top[1:])]


def arrows_of(marks, records, stretches, idle):
    """For each mark of the stretches how many arrows lead from it to each of these marks."""
    many = len(stretches)
    places = {mark: at for at, (mark, _) in enumerate(stretches)}
    arrows = [[0] * many for _ in stretches]
    for record in records:
        arrows[places[record[0]]][places[end_of(marks, record)]] += 1
    for at, passes in enumerate(idle):
        arrows[at][(at + 1) % many] += passes
    return arrows


def laps_of(marks, records, rounds):
    """How many laps have so many rounds, where no lap of the records has fewer."""
    stretches = covers_of(marks, records)
    idle = [rounds - cover for _, cover in stretches]
    if min(idle) < 0:
        return 0
    arrows = arrows_of(marks, records, stretches, idle)
    leaving = [sum(row) for row in arrows]
    others = list(range(1, len(arrows)))
    count = determinant([[(leaving[at] if at == to else 0) - arrows[at][to] for to in others] for at in others])
    for number in leaving:
        count *= factorial(number - 1)
    for passes in idle:
        count //= factorial(passes)
    return count
