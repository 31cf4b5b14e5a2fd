"""Commitments to a bit that can be opened both ways."""

from breakback.bits import bits, number_of
from breakback.blocks import check_block
from breakback.errors import BadBlock


def double_openings(block):
    """Return the list of the strings under which some commitment can be opened both ways, by their numbers."""
    check_block(block)
    if block[0] != "generator":
        raise BadBlock("a generator is needed here, not a function")
    numbers = sorted(set([number_of(row) for row in block[3]]))
    found = sorted({first ^ second for first in numbers for second in numbers})
    return [bits(block[2], number) for number in found]
