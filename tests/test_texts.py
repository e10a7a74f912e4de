"""Point [31]: texts of records, of trips and of lists of numbers."""

import unittest
from itertools import chain, permutations
from random import Random

from ringreads.texts import format_numbers, format_records, parse_records, parse_trip
from tests.support import APART, NO_WORDS, THREE, RingTest
from tests.support import wrong_marks, wrong_records, wrong_records_text, wrong_trip_text
from tests.walks import LONGEST, MOST, great_rings, mixed_rings, small_rings


class ThereAndBackTest(unittest.TestCase):

    def test_records(self):
        for marks, records in chain(list(small_rings())[::7], mixed_rings(60, 6, 110), great_rings()):
            text = format_records(marks, records)
            self.assertEqual(text, " ".join(str(begin) + "+" + str(length) for begin, length in records))
            found = parse_records(marks, text)
            self.assertEqual(repr(found), repr(records))
            self.assertEqual(format_records(marks, found), text)

    def test_trips(self):
        for many in range(1, 6):
            records = [(0, 1)] * many
            for trip in permutations(range(many)):
                text = format_numbers(list(trip))
                self.assertEqual(text, " ".join(str(index) for index in trip))
                self.assertEqual(parse_trip(1, records, text), list(trip))

    def test_trips_of_thirty_records(self):
        chance = Random(111)
        for marks, records in great_rings():
            trip = chance.sample(range(30), 30)
            self.assertEqual(parse_trip(marks, records, format_numbers(trip)), trip)
            self.assertEqual(parse_trip(marks, records, format_numbers(sorted(trip))), list(range(30)))


class FormatTest(RingTest):

    def test_numbers(self):
        self.assertEqual(format_numbers([]), "")
        self.assertEqual(format_numbers([0]), "0")
        self.assertEqual(format_numbers([10, 0, 0, 7]), "10 0 0 7")
        self.assertEqual(format_numbers([10 ** 31, 10 ** 45 - 1, 10 ** 99]), f"{10 ** 31} {10 ** 45 - 1} {10 ** 99}")
        self.assertEqual(format_numbers(list(range(200))), " ".join(map(str, range(200))))

    def test_records(self):
        self.assertEqual(format_records(4, APART), "0+2 1+2")
        self.assertEqual(format_records(1, [(0, LONGEST)]), "0+1" + "0" * 31)
        self.assertEqual(format_records(MOST, [(MOST - 1, 1)]), "9" * 30 + "+1")

    def test_what_is_no_ring(self):
        for value, name, fields in wrong_marks():
            self.expect(name, fields, format_records, value, THREE)
        for value, name, fields in wrong_records():
            self.expect(name, fields, format_records, 4, value)


class ParseTest(RingTest):

    def test_records(self):
        self.assertEqual(parse_records(4, "0+2"), [(0, 2)])
        self.assertEqual(parse_records(4, "3+" + str(LONGEST)), [(3, LONGEST)])
        self.assertEqual(parse_records(1, " ".join(["0+1"] * 30)), [(0, 1)] * 30)
        self.assertEqual(parse_records(MOST, f"{MOST - 1}+{LONGEST} 0+10"), [(MOST - 1, LONGEST), (0, 10)])

    def test_wrong_texts_of_records(self):
        for value, name, fields in wrong_records_text():
            self.expect(name, fields, parse_records, 4, value)

    def test_a_begin_that_is_no_mark(self):
        for marks in (1, 2, 9, 10, MOST):
            self.assertEqual(parse_records(marks, f"{marks - 1}+1"), [(marks - 1, 1)])
            self.expect("InvalidText", {"word": 0}, parse_records, marks, f"{marks}+1")
            self.expect("InvalidText", {"word": 1}, parse_records, marks, f"0+1 {marks}+1 x")

    def test_numbers_of_32_digits_and_of_33(self):
        self.assertEqual(parse_records(1, f"0+{10 ** 31}"), [(0, 10 ** 31)])
        for length in (10 ** 31 + 1, 10 ** 32 - 1, 10 ** 32, 10 ** 33):
            self.expect("InvalidText", {"word": 0}, parse_records, 1, f"0+{length}")
        self.expect("InvalidText", {"word": 0}, parse_records, 1, "0+" + "0" * 32 + "1")
        self.expect("InvalidText", {"word": 0}, parse_records, 1, "0+01")
        self.expect("InvalidText", {"word": 0}, parse_records, 1, "00+1")

    def test_wrong_texts_of_trips(self):
        for value, name, fields in wrong_trip_text():
            self.expect(name, fields, parse_trip, 4, THREE, value)

    def test_the_first_wrong_word(self):
        for word in NO_WORDS[1:]:
            for at in range(4):
                words = ["2", "0", "1", "0"]
                words[at] = word
                self.expect("InvalidText", {"word": at}, parse_trip, 4, THREE, " ".join(words[:max(3, at + 1)]))

    def test_words_that_lack_and_words_too_many(self):
        for many in range(1, 31):
            records = [(0, 1)] * many
            trip = list(range(many))
            self.assertEqual(parse_trip(1, records, format_numbers(trip)), trip)
            self.expect("InvalidText", {"word": many - 1}, parse_trip, 1, records, format_numbers(trip[:-1]))
            for more in (" 0", f" {many}", " x", " ", "  "):
                self.expect("InvalidText", {"word": many}, parse_trip, 1, records, format_numbers(trip) + more)
            self.expect("InvalidText", {"word": many - 1}, parse_trip, 1, records, format_numbers(trip[1:] + [many]))
            self.expect("InvalidText", {"word": 0}, parse_trip, 1, records, "")

    def test_the_errors_of_the_ring_come_first(self):
        for text in (None, "", "x", 7):
            self.expect("InvalidMarks", {}, parse_records, 0, text)
            self.expect("InvalidMarks", {}, parse_trip, 0, [], text)
            self.expect("InvalidRecords", {"index": None}, parse_trip, 4, [], text)
            self.expect("InvalidRecords", {"index": 1}, parse_trip, 4, [(0, 2), (4, 1)], text)

    def test_lists_are_new(self):
        parse_records(4, "0+2").append(7)
        self.assertEqual(parse_records(4, "0+2"), [(0, 2)])
        parse_trip(4, THREE, "1 0 2").clear()
        self.assertEqual(parse_trip(4, THREE, "1 0 2"), [1, 0, 2])


if __name__ == "__main__":
    unittest.main()
