"""The best breakers of small blocks.

A breaker that says "1" just where the block gives an answer more often than chance does gains all that there is
to gain. Points stand for advantages, times a number that depends on the block and the asks alone: at each end of a
breaker that says "1" they are the seeds or keys that lead there, each counted fair times, less their number in all,
fair being among how many strings chance would draw all that the breaker is handed.
"""

from breakback.bits import bits
from breakback.blocks import check_block, is_whole
from breakback.chances import fraction
from breakback.errors import BadChoice

MOST_ASKS = 2
LONGEST_ASKED = 3
LONGEST_HANDED = 9
NO = ("say", ("0",))
YES = ("say", ("1",))


def is_in_reach(block, asks):
    """Tell whether the best breaker of the block with so many asks is to be found here."""
    if block[0] == "generator":
        return block[2] <= LONGEST_HANDED and is_whole(asks, 0, 0)
    return max(block[2:4]) <= LONGEST_ASKED and is_whole(asks, 0, MOST_ASKS)


def speaker(fair, many):
    """Return what makes of the tables that are left, among so many, the points and the breaker that ends there."""
    def speak(tables):
        points = len(tables) * fair - many
        return (points, YES) if points > 0 else (0, NO)

    return speak


def looking(tables, x, place, number, onward):
    """Return the points and a breaker that looks at the string at x of the table, from this place on.

    number is that of the bit at the place; onward makes of the tables that are left what follows.
    """
    if tables == []:
        return (0, NO)
    if place == len(tables[0][x]):
        return onward(tables)
    fewer, first = looking([table for table in tables if table[x][place] == "0"], x, place + 1, number + 1, onward)
    more, second = looking([table for table in tables if table[x][place] == "1"], x, place + 1, number + 1, onward)
    return (fewer + more, ("look", number, first, second))


def asking(tables, asks, old, number, speak):
    """Return the most points of breakers that ask so often more, and one that has them.

    old are the numbers of the strings that were asked before: asked again, one would tell nothing.
    number is that of the first bit of the next answer.
    """
    if asks == 0:
        return speak(tables)
    found = [asking_at(x, tables, asks, old, number, speak) for x in range(len(tables[0])) if x not in old]
    return max(found, key=lambda pair: pair[0])


def asking_at(x, tables, asks, old, number, speak):
    """Return the most points of breakers that ask the string with number x first, and one that has them."""
    values = tables[0]
    length = (len(values) - 1).bit_length()

    def onward(left):
        return asking(left, asks - 1, (*old, x), number + len(values[x]), speak)

    points, breaker = looking(tables, x, 0, number, onward)
    return (points, ("ask", tuple(bits(length, x)), breaker))


def best(block, asks):
    """Return the greatest advantage against a small block with at most so many asks, and a breaker that has it."""
    check_block(block)
    if not is_in_reach(block, asks):
        raise BadChoice("this is found for asks up to 2 of short strings, or for none of a short row")
    many = 1 << block[1]
    if block[0] == "generator":
        fair = 1 << block[2]
        points, breaker = looking([(row,) for row in block[3]], 0, 0, 0, speaker(fair, many))
    else:
        fair = 1 << (block[3] * asks)
        points, breaker = asking(list(block[4]), asks, (), 0, speaker(fair, many))
    return (fraction(points, fair * many), breaker)
