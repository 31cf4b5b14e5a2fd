"""Blocks, which are tables of bits, and the larger blocks that are built from them.

A generator from n to m bits is ("generator", n, m, rows). A function with keys of n bits,
from l to m bits, is ("function", n, l, m, tables), with a tuple of rows for each key.
The names n, l, m, k, d, c and b are those of the document.
"""

from breakback.bits import all_bits, number_of, parity
from breakback.errors import BadBlock, BadScheme

MOST_BITS = 40


def is_whole(value, low, high):
    """Tell whether the value is an integer from low to high."""
    # For Python True and False are integers, for the document they are not.
    return isinstance(value, int) and not isinstance(value, bool) and low <= value <= high


def are_rows(value, many, m):
    """Tell whether the value is a tuple of so many strings of m bits."""
    if not isinstance(value, tuple) or len(value) != many:
        return False
    if not all([isinstance(row, str) and len(row) == m for row in value]):
        return False
    # Blocks are checked at every call: one strip of all rows is much quicker than a look at each sign.
    return "".join(value).strip("01") == ""


def is_generator(value):
    """Tell whether the value is a generator."""
    if not isinstance(value, tuple) or len(value) != 4:
        return False
    kind, n, m, rows = value
    if kind != "generator" or not is_whole(n, 1, 10) or not is_whole(m, 1, MOST_BITS):
        return False
    return are_rows(rows, 1 << n, m)


def is_function(value):
    """Tell whether the value is a function."""
    if not isinstance(value, tuple) or len(value) != 5:
        return False
    kind, n, l, m, tables = value
    if kind != "function" or not is_whole(n, 1, 8) or not is_whole(l, 1, 8) or n + l > 12:
        return False
    if not is_whole(m, 1, MOST_BITS) or not isinstance(tables, tuple) or len(tables) != (1 << n):
        return False
    return all([are_rows(rows, 1 << l, m) for rows in tables])


def check_block(block):
    """Return None if the block is a generator or a function; otherwise raise BadBlock."""
    if not is_generator(block) and not is_function(block):
        raise BadBlock("this is neither a generator nor a function")


def generator_parts(block):
    """Return n, m and the rows of a generator; raise BadScheme for a function."""
    check_block(block)
    if block[0] != "generator":
        raise BadScheme("a generator is needed here, not a function")
    return block[1:]


def function_parts(block):
    """Return n, l, m and the tables of a function; raise BadScheme for a generator."""
    check_block(block)
    if block[0] != "function":
        raise BadScheme("a function is needed here, not a generator")
    return block[1:]


def row_of(block, string):
    """Return the row of a generator for a string of n bits."""
    rows = generator_parts(block)[2]
    return rows[number_of(string)]


def value_of(block, key, string):
    """Return the value of a function under a key of n bits at a string of l bits."""
    tables = function_parts(block)[3]
    return tables[number_of(key)][number_of(string)]


def put_out(rows, state, k):
    """Return the k bits that are put out from the state on, and then the last state."""
    out = ""
    for _ in range(k):
        row = rows[number_of(state)]
        state = row[:-1]
        out = out + row[-1]
    return out + state


def longer(block, k):
    """Return the generator from n to n + k bits that puts out k bits of a generator from n to n + 1."""
    n, m, rows = generator_parts(block)
    if m != n + 1:
        raise BadScheme("longer takes a generator from n to n + 1 bits")
    if not is_whole(k, 1, 20):
        raise BadScheme("longer takes a number from 1 to 20")
    return ("generator", n, n + k, tuple([put_out(rows, seed, k) for seed in all_bits(n)]))


def go_down(rows, label, path):
    """Return the label that is come to from this label along the bits of the path."""
    n = len(label)
    for bit in path:
        row = rows[number_of(label)]
        label = row[:n] if bit == "0" else row[n:]
    return label


def tree(block, d):
    """Return the function from d to n bits whose values are the leaves of the tree below each key."""
    n, m, rows = generator_parts(block)
    if m != 2 * n or n > 8:
        raise BadScheme("tree takes a generator from n to 2n bits, n at most 8")
    if not is_whole(d, 1, 8) or n + d > 12:
        raise BadScheme("tree takes a depth from 1 to 8, together with n at most 12")
    paths = all_bits(d)
    tables = [tuple([go_down(rows, key, path) for path in paths]) for key in all_bits(n)]
    return ("function", n, d, n, tuple(tables))


def counter(block, c):
    """Return the generator whose rows are a function's values at the first c strings."""
    n, l, m, tables = function_parts(block)
    if not is_whole(c, 1, 1 << l) or c * m > MOST_BITS:
        raise BadScheme("counter takes a number from 1 to 2^l, times m at most 40")
    return ("generator", n, c * m, tuple(["".join(values[:c]) for values in tables]))


def cut(block, b):
    """Return the generator whose rows are the first b bits of a generator's."""
    n, m, rows = generator_parts(block)
    if not is_whole(b, 1, m):
        raise BadScheme("cut takes a number from 1 to m")
    return ("generator", n, b, tuple([row[:b] for row in rows]))


def hardbits(block):
    """Return the generator whose row of x and r is the row of x, then r, then their parity."""
    n, m, rows = generator_parts(block)
    if n > 5 or m + n + 1 > MOST_BITS:
        raise BadScheme("hardbits takes a generator with n at most 5 and m + n + 1 at most 40")
    seeds = all_bits(n)
    made = [rows[number_of(x)] + r + str(parity(x, r)) for x in seeds for r in seeds]
    return ("generator", 2 * n, m + n + 1, tuple(made))
