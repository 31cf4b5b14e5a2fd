"""Strings of bits and their numbers."""


def bits(length, number):
    """Return the string of so many bits that writes the number."""
    # Python writes 0 with one sign, but the string of no bits has none.
    if length == 0:
        return ""
    return f"{number:b}".zfill(length)


def all_bits(length):
    """Return the list of all strings of so many bits, in the order of their numbers."""
    return [bits(length, number) for number in range(1 << length)]


def number_of(string):
    """Return the number that the string writes in the binary way, 0 for the empty one."""
    if string == "":
        return 0
    return int(string, 2)


def xor(first, second):
    """Return the string with 1 just where the two strings of one length differ."""
    return bits(len(first), number_of(first) ^ number_of(second))


def parity(first, second):
    """Return the parity, 0 or 1, of the number of places at which both strings have 1."""
    both = bits(len(first), number_of(first) & number_of(second))
    return both.count("1") % 2
