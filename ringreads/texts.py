"""Texts of records, of trips and of other lists of numbers."""

from ringreads.checks import MOST_RECORDS, check_marks, check_ring, is_new_index, is_record
from ringreads.errors import InvalidText
from ringreads.words import number_of, pair_of


def format_records(marks, records):
    """The text of records."""
    check_ring(marks, records)
    return " ".join([f"{begin}+{length}" for begin, length in records])


def format_numbers(numbers):
    """The text of a list of numbers."""
    return " ".join([str(number) for number in numbers])


def words_in(text):
    """The list of the words of a text."""
    if type(text) != str:
        raise InvalidText(None)
    return text.split(" ") if text else []


def parse_records(marks, text):
    """The records with a text."""
    check_marks(marks)
    records = []
    for at, word in enumerate(words_in(text)):
        record = pair_of(word)
        if at == MOST_RECORDS or not is_record(marks, record):
            raise InvalidText(at)
        records.append(record)
    if not records:
        raise InvalidText(0)
    return records


def parse_trip(marks, records, text):
    """The trip of the records with a text."""
    check_ring(marks, records)
    many = len(records)
    order = []
    for at, word in enumerate(words_in(text)):
        order.append(number_of(word))
        # Behind all indices of the records there is no new one, so this tells a word too many, too.
        if not is_new_index(many, order, at):
            raise InvalidText(at)
    if len(order) < many:
        raise InvalidText(len(order))
    return order
