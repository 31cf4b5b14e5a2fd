"""Presses: long texts pressed to n bits by a table from 2n to n bits."""

from breakback.bits import bits, number_of
from breakback.blocks import check_block
from breakback.errors import BadBlock, BadMessage


def press_parts(block):
    """Return n and the rows of a press; raise BadBlock if the block is none."""
    check_block(block)
    if block[0] != "generator" or block[1] != 2 * block[2]:
        raise BadBlock("a generator from 2n to n bits is needed here")
    return block[2:]


def check_message(n, message):
    """Return None if this is a string of some blocks of n bits; otherwise raise BadMessage."""
    if not isinstance(message, str) or message == "" or len(message) % n != 0:
        raise BadMessage("a message is a string of one block or more")
    if message.strip("01") != "":
        raise BadMessage("a message has only the signs 0 and 1")


def digits_of(n, number):
    """Return the list of the blocks of n bits in which a number above 0 is written, the lowest first."""
    digits = []
    while number > 0:
        digits.append(bits(n, number % (1 << n)))
        number = number >> n
    return digits


def pressed(n, rows, message):
    """Return the list of the strings that the chain of a message puts in, and its value."""
    parts = [message[at:at + n] for at in range(0, len(message), n)]
    digits = digits_of(n, len(parts))
    state = bits(n, 0)
    put_in = []
    for part in parts + digits:
        put_in.append(state + part)
        state = rows[number_of(state + part)]
    return put_in, (state, len(digits))


def chain(block, message):
    """Return the chain value of a message: the last state, and in how many blocks its length is written."""
    n, rows = press_parts(block)
    check_message(n, message)
    return pressed(n, rows, message)[1]


def collide(block, first, second):
    """Return the pair nearest to the end of unlike strings with one row that two chains with one value put in."""
    n, rows = press_parts(block)
    check_message(n, first)
    check_message(n, second)
    if first == second:
        raise BadMessage("the two messages are the same")
    one, first_value = pressed(n, rows, first)
    other, second_value = pressed(n, rows, second)
    if first_value != second_value:
        raise BadMessage("the two messages have not the same value")
    # Going back from the end, the rows are the same as long as what was put in behind them is.
    # Two differ somewhere: in the blocks of the numbers or, where these are the same, in those of the messages.
    ahead = 1
    while one[-ahead] == other[-ahead]:
        ahead += 1
    return (one[-ahead], other[-ahead])
