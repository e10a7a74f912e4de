"""What several tests reckon with: rings, and records that are read on them tick by tick."""

from itertools import permutations, product
from random import Random

MOST = 10 ** 30
LONGEST = 10 ** 31


def small_rings():
    """Lists of one to four records on rings of 1 to 4 marks."""
    for marks in range(1, 5):
        records = list(product(range(marks), (1, 2, 3, 5, 8)))
        for record in records:
            yield marks, [record]
        for pair in product(records, records[::2]):
            yield marks, list(pair)
        for triple in product(records[::2], records[1::3], records[2::4]):
            yield marks, list(triple)
        yield marks, [records[0], records[0], records[-1], records[-1]]


def mixed_rings(times, many, seed):
    """So many lists of so many records on rings of 1 to 9 marks: short ones, long ones and whole rounds."""
    chance = Random(seed)
    for _ in range(times):
        marks = chance.randint(1, 9)
        longest = chance.choice([1, 2, 3, marks, 2 * marks])
        records = [(chance.randrange(marks), chance.randint(1, longest)) for _ in range(many)]
        if chance.random() < 0.2:
            records[-1] = (records[-1][0], marks)
        yield marks, records


def great_rings():
    """Lists of thirty records of many kinds, on rings of one mark and of many."""
    chance = Random(30)
    yield 1, [(0, 1)] * 30
    yield 1, [(0, LONGEST - index) for index in range(30)]
    yield 2, [(index % 2, 1) for index in range(30)]
    yield 30, [(index, 1) for index in range(30)]
    yield 30, [(index, 30 - index) for index in range(30)]
    yield MOST, [(7, 1)] * 30
    yield MOST, [(7, MOST)] * 30
    yield MOST, [(MOST - 1, LONGEST)] * 30
    yield MOST, [(7, index + 1) for index in range(30)]
    yield MOST, [(index * (MOST // 30), MOST // 30) for index in range(30)]
    yield MOST, [(index * (MOST // 30), MOST - 1) for index in range(30)]
    yield MOST, [(index * (MOST // 30), MOST * (index // 3) + 1) for index in range(30)]
    for longest in (1, MOST // 30, MOST // 2, MOST, LONGEST):
        yield MOST, [(chance.randrange(MOST), chance.randint(1, longest)) for _ in range(30)]


def walked(marks, record):
    """The arcs that a record lies over, one by one, and the mark at its end."""
    at, length = record
    arcs = []
    for _ in range(length):
        arcs.append(at)
        at = 0 if at == marks - 1 else at + 1
    return arcs, at


def counted(marks, records):
    """The cover of each arc, counted arc by arc."""
    cover = [0] * marks
    for record in records:
        for arc in walked(marks, record)[0]:
            cover[arc] += 1
    return cover


def read(marks, records, at, order):
    """Read the records tick by tick: the ticks at which they are begun, the last end, and the mark there."""
    tick = 0
    begins = []
    for index in order:
        begin, length = records[index]
        while at != begin:
            at, tick = (at + 1) % marks, tick + 1
        begins.append(tick)
        for _ in range(length):
            at, tick = (at + 1) % marks, tick + 1
    return begins, tick, at


def laps_of(records):
    """All laps of the records, ascending."""
    return [[0, *rest] for rest in permutations(range(1, len(records)))]


def rounds_of(marks, records, lap):
    """The rounds of a lap, read until the record 0 is begun again."""
    rounds, rest = divmod(read(marks, records, records[0][0], [*lap, 0])[0][-1], marks)
    assert rest == 0
    return rounds


def fewest_laps(marks, records):
    """The fewest rounds, and all laps with so many, ascending."""
    rounds = [(rounds_of(marks, records, lap), lap) for lap in laps_of(records)]
    fewest = min(rounds)[0]
    return fewest, [lap for found, lap in rounds if found == fewest]


def fewest_trips(marks, records, mark):
    """The fewest ticks from a mark, and all trips with so many, ascending."""
    ticks = [(read(marks, records, mark, trip)[1], list(trip)) for trip in permutations(range(len(records)))]
    fewest = min(ticks)[0]
    return fewest, [trip for found, trip in ticks if found == fewest]
