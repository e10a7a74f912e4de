"""Layouts of blocks, each of which needs some reckoning ahead of the next one, on a ring of as many marks."""

from math import gcd

from ringreads.checks import check_between

MOST_BLOCKS = 10 ** 30
MOST_RECKONING = 10 ** 30


def check_layout(blocks, reckoning):
    """Raise InvalidNumber unless so many blocks with such a reckoning can be laid."""
    check_between(blocks, 1, MOST_BLOCKS)
    check_between(reckoning, 0, MOST_RECKONING)


def inverse(number, marks):
    """The mark that is 1 if it is multiplied by a number without a common divisor and counted around, 0 for 1 mark."""
    before, found = 0, 1
    high, low = marks, number % marks
    while low > 0:
        times = high // low
        before, found = found, before - times * found
        high, low = low, high - times * low
    return before % marks


def layout_rounds(blocks, reckoning):
    """The fewest rounds of a lap that reads the blocks in their sequence, over all layouts."""
    check_layout(blocks, reckoning)
    return reckoning + 1 if gcd(blocks, reckoning + 1) == 1 else reckoning + 2


def layout_ticks(blocks, reckoning):
    """The fewest ticks from the begin of block 0 to the end of the last block, over all layouts."""
    check_layout(blocks, reckoning)
    return (blocks - 1) * (reckoning + 1) + gcd(blocks, reckoning + 1)


def place_of(blocks, reckoning, block):
    """The mark at which a layout with so few rounds and ticks has a block."""
    check_layout(blocks, reckoning)
    check_between(block, 0, blocks - 1)
    row = blocks // gcd(blocks, reckoning + 1)
    return (block * (reckoning + 1) + block // row) % blocks


def block_at(blocks, reckoning, place):
    """The block that this layout has at a mark."""
    check_layout(blocks, reckoning)
    check_between(place, 0, blocks - 1)
    common = gcd(blocks, reckoning + 1)
    row = blocks // common
    # The blocks number * row to number * row + row - 1 stand at the marks that leave the rest number by common.
    number = place % common
    at = (place // common) * inverse((reckoning + 1) // common, row) % row
    return number * row + at
