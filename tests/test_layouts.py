"""Point [24]: layouts of blocks that need some reckoning behind each."""

import unittest
from itertools import permutations
from math import gcd
from random import Random

from ringreads.layouts import block_at, layout_rounds, layout_ticks, place_of
from tests.support import RingTest
from tests.walks import MOST


def small_layouts():
    """Numbers of blocks with reckonings, among them some that are much greater."""
    for blocks in range(1, 31):
        for reckoning in (*range(2 * blocks + 2), 7 * blocks - 1, 10 * blocks, 100):
            yield blocks, reckoning


def great_layouts():
    """Many blocks with long reckonings, with common divisors of 1, of all blocks, and between."""
    chance = Random(24)
    for blocks in (1, 2, 30, 2 ** 99, 3 ** 62, 10 ** 29, MOST - 1, MOST):
        for reckoning in (0, 1, 2, blocks - 1, blocks // 2, MOST - 1, MOST, 10 ** 15 - 1, 2 ** 50 - 1, 3 ** 40 - 1):
            yield blocks, reckoning
        for _ in range(20):
            yield blocks, chance.randrange(MOST)
            yield chance.randint(1, MOST), chance.randrange(MOST)


def walk(places, reckoning):
    """Read the blocks at these marks tick by tick: the end of the last one, and the next begin of block 0."""
    marks = len(places)
    at, tick, free, last = places[0], 0, 0, None
    for block in [*range(marks), 0]:
        while at != places[block] or tick < free:
            at, tick = (at + 1) % marks, tick + 1
        if block == 0 and free > 0:
            return last, tick
        at, tick = (at + 1) % marks, tick + 1
        last, free = tick, tick + reckoning
    raise AssertionError("block 0 is the last one, too")


class FewestTest(unittest.TestCase):

    def walked(self, places, reckoning):
        """The rounds of a lap and the ticks of the first pass, for one block, too."""
        if len(places) == 1:
            return reckoning + 1, 1
        ticks, lap = walk(places, reckoning)
        self.assertEqual(lap % len(places), 0)
        return lap // len(places), ticks

    def test_no_layout_has_fewer(self):
        for blocks in range(1, 7):
            for reckoning in (*range(2 * blocks + 1), 5 * blocks - 1):
                # Layouts that are turned are read alike, as the ticks count from the begin of block 0.
                found = [self.walked([0, *rest], reckoning) for rest in permutations(range(1, blocks))]
                self.assertEqual(layout_rounds(blocks, reckoning), min(rounds for rounds, _ in found))
                self.assertEqual(layout_ticks(blocks, reckoning), min(ticks for _, ticks in found))

    def test_turned_layouts_are_read_alike(self):
        for places in permutations(range(5)):
            self.assertEqual(walk(places, 2), walk([(place - places[0]) % 5 for place in places], 2))

    def test_the_layout_reaches_both(self):
        for blocks, reckoning in small_layouts():
            places = [place_of(blocks, reckoning, block) for block in range(blocks)]
            self.assertEqual(sorted(places), list(range(blocks)), (blocks, reckoning))
            self.assertEqual(self.walked(places, reckoning),
                             (layout_rounds(blocks, reckoning), layout_ticks(blocks, reckoning)), (blocks, reckoning))

    def test_one_block(self):
        for reckoning in (0, 1, 5, MOST - 1, MOST):
            self.assertEqual(layout_rounds(1, reckoning), reckoning + 1)
            self.assertEqual(layout_ticks(1, reckoning), 1)
            self.assertEqual(place_of(1, reckoning, 0), 0)
            self.assertEqual(block_at(1, reckoning, 0), 0)

    def test_no_reckoning(self):
        for blocks in (1, 2, 7, MOST):
            self.assertEqual(layout_rounds(blocks, 0), 1)
            self.assertEqual(layout_ticks(blocks, 0), blocks)
            for block in {0, blocks // 2, blocks - 1}:
                self.assertEqual(place_of(blocks, 0, block), block)
                self.assertEqual(block_at(blocks, 0, block), block)

    def test_common_divisors(self):
        self.assertEqual([layout_rounds(12, reckoning) for reckoning in range(13)],
                         [1, 3, 4, 5, 5, 7, 7, 9, 10, 11, 11, 13, 13])
        self.assertEqual([layout_ticks(12, reckoning) for reckoning in range(13)],
                         [12, 24, 36, 48, 56, 72, 78, 92, 102, 112, 122, 144, 144])
        self.assertEqual(layout_rounds(MOST, MOST), MOST + 1)
        self.assertEqual(layout_ticks(MOST, MOST), (MOST - 1) * (MOST + 1) + 1)
        self.assertEqual(layout_rounds(MOST, MOST - 1), MOST + 1)
        self.assertEqual(layout_ticks(MOST, MOST - 1), MOST * MOST)
        self.assertEqual(layout_rounds(MOST, 2 ** 20 - 1), 2 ** 20 + 1)
        self.assertEqual(layout_ticks(MOST, 2 ** 20 - 1), MOST * 2 ** 20)


class PlaceTest(RingTest):

    def test_places_by_their_words(self):
        for blocks, reckoning in small_layouts():
            row = blocks // gcd(blocks, reckoning + 1)
            for block in range(blocks):
                place = (block * (reckoning + 1) + block // row) % blocks
                self.assertEqual(place_of(blocks, reckoning, block), place)
                self.assertEqual(block_at(blocks, reckoning, place), block, (blocks, reckoning, place))

    def test_great_layouts_there_and_back(self):
        chance = Random(25)
        for blocks, reckoning in great_layouts():
            for mark in {0, blocks - 1, blocks // 2, chance.randrange(blocks), chance.randrange(blocks)}:
                place = place_of(blocks, reckoning, mark)
                self.assertIn(place, range(blocks))
                self.assertEqual(block_at(blocks, reckoning, place), mark)
                block = block_at(blocks, reckoning, mark)
                self.assertIn(block, range(blocks))
                self.assertEqual(place_of(blocks, reckoning, block), mark)

    def test_waits_of_great_layouts(self):
        chance = Random(26)
        for blocks, reckoning in great_layouts():
            common = gcd(blocks, reckoning + 1)
            row = blocks // common
            for block in {0, row - 1, blocks - 1, chance.randrange(blocks)} - {blocks - 1}:
                step = place_of(blocks, reckoning, block + 1) - place_of(blocks, reckoning, block)
                # Where a row of blocks is full, the next one is a mark further.
                self.assertEqual((step - reckoning - 1) % blocks, int((block + 1) % row == 0))
            waited = (place_of(blocks, reckoning, 0) - place_of(blocks, reckoning, blocks - 1) - reckoning - 1) % blocks
            self.assertEqual(layout_rounds(blocks, reckoning) * blocks, blocks * (reckoning + 1) + common - 1 + waited)

    def test_the_border_of_what_is_a_number(self):
        for function in (place_of, block_at):
            for blocks in (1, 9, MOST):
                self.assertEqual(function(blocks, 2, 0), 0)
                self.assertIn(function(blocks, MOST, blocks - 1), range(blocks))
                for wrong in (blocks, blocks + 1, -1):
                    self.expect("InvalidNumber", {}, function, blocks, 2, wrong)
            for wrong in (0, -1, MOST + 1, True):
                self.expect("InvalidNumber", {}, function, wrong, 2, 0)
            for wrong in (-1, MOST + 1, False):
                self.expect("InvalidNumber", {}, function, 1, wrong, 0)
        for function in (layout_rounds, layout_ticks):
            self.assertGreater(function(MOST, MOST), MOST)
            for blocks, reckoning in ((0, 0), (-1, 0), (MOST + 1, 0), (1, -1), (1, MOST + 1), (True, 0), (1, False)):
                self.expect("InvalidNumber", {}, function, blocks, reckoning)


if __name__ == "__main__":
    unittest.main()
