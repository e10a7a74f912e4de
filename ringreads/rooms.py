"""Rooms and parts of records for a number of rounds, and the fewest rounds. Nothing is checked here."""

from ringreads.rings import covers_of, end_of, most_of


def rooms_of(marks, records, rounds):
    """For each mark at which a record begins or ends the number of its room for so many rounds."""
    closed = 0
    rooms = {}
    for mark, cover in covers_of(marks, records):
        rooms[mark] = closed
        if cover >= rounds:
            closed += 1
    # An open stretch behind the last mark leads to the first one: their rooms are one room.
    return {mark: rooms[mark] % max(closed, 1) for mark in rooms}


def part_numbers(marks, records, rounds):
    """For each record a number of its part for so many rounds."""
    rooms = rooms_of(marks, records, rounds)
    numbers = list(range(len(rooms)))
    for record in records:
        number = numbers[rooms[record[0]]]
        other = numbers[rooms[end_of(marks, record)]]
        if number != other:
            numbers = [number if found == other else found for found in numbers]
    return [numbers[rooms[begin]] for begin, _ in records]


def parts_of(marks, records, rounds):
    """The parts for so many rounds, each an ascending list of indices, ascending."""
    found = {}
    for index, number in enumerate(part_numbers(marks, records, rounds)):
        found.setdefault(number, []).append(index)
    return list(found.values())


def fewest_of(marks, records):
    """The fewest rounds of laps of any number of records, 0 if there are none."""
    if not records:
        return 0
    most = most_of(marks, records)
    return most if len(parts_of(marks, records, most)) == 1 else most + 1


def has_lap(marks, records, rounds):
    """Whether the records have a lap of at most so many rounds."""
    return fewest_of(marks, records) <= rounds
