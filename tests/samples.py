"""Blocks and values for the tests, the same in every run."""

import hashlib
import itertools


def strings(length):
    """All strings of so many bits, in the order of their numbers, made apart from the program."""
    return ["".join(signs) for signs in itertools.product("01", repeat=length)]


def scrambled(length, *names):
    """A string of so many bits that follows from the names alone, with no pattern to be seen."""
    digest = hashlib.shake_256(repr(names).encode()).digest(length // 8 + 1)
    return "".join(f"{byte:08b}" for byte in digest)[:length]


def generator(n, m, name="any"):
    return ("generator", n, m, tuple(scrambled(m, name, n, m, seed) for seed in strings(n)))


def function(n, l, m, name="any"):
    tables = tuple(tuple(scrambled(m, name, n, l, m, key, x) for x in strings(l)) for key in strings(n))
    return ("function", n, l, m, tables)


def every_generator(n, m):
    return [("generator", n, m, rows) for rows in itertools.product(strings(m), repeat=2 ** n)]


def staying(n):
    """A generator from n to n + 1 bits that leads each state to itself, with its last bit put out."""
    return ("generator", n, n + 1, tuple(seed + seed[-1] for seed in strings(n)))


def bent_in_place(value):
    """Values in the place of this one, none of which can stand there."""
    yield from (None, (value,), [value])
    if isinstance(value, int):
        yield from (value + 1, value - 1, -value, str(value), value == 1, "", ())
    elif isinstance(value, str):
        yield from (value + "0", value + " ", value[:-1], value[1:], list(value), tuple(value), 0, 1, True, False)
        for sign in ("2", "O", "l", " ", "-", "+", "_", "b", "\n", "\0", "\u0661", "00", ""):
            yield sign + value[1:]
            yield value[:-1] + sign
    else:
        yield from (list(value), value[:-1], value[1:], value + value[-1:], value[:1] + value, value + (None,),
                    (), [], "", "".join(map(str, value)), 0, 1, True, False)


def bends(block):
    """Values like this block, each bent at one place, at any depth."""
    yield from bent_in_place(block)
    if isinstance(block, tuple):
        for at, part in enumerate(block):
            for bent in bends(part):
                yield block[:at] + (bent,) + block[at + 1:]


def same_kinds(first, second):
    """Whether two values are the same down to their kinds: here 1 is not True and a list is no tuple."""
    if type(first) is not type(second):
        return False
    if isinstance(first, (tuple, list)):
        return len(first) == len(second) and all(map(same_kinds, first, second))
    return first == second


ATOMS = (0, 1, -1, 2, 10 ** 5000, True, False, None, "", "0", "1", "01", "generator", "function", (), [])


def no_blocks():
    """Values of many kinds, none of which is a block."""
    yield from ATOMS
    for many in (1, 2):
        for parts in itertools.product(ATOMS, repeat=many):
            yield parts
            yield list(parts)
    for parts in itertools.product(ATOMS, repeat=3):
        yield ("generator",) + parts
    few = (1, 2, True, None, "1", ("0", "1"), (("0", "1"), ("0", "1")), [["0", "1"], ["0", "1"]])
    for parts in itertools.product(few, repeat=4):
        block = ("function",) + parts
        if not same_kinds(block, ("function", 1, 1, 1, (("0", "1"), ("0", "1")))):
            yield block
