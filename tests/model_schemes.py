"""Schemes, goals, gains and what is carried, told once more after DOC.md, to hold the program against."""

from fractions import Fraction

from tests.model import chance_and_ways, string_of, value
from tests.samples import strings

NAMES = ("tell", "marks", "secrets", "once", "opening", "next")


def is_number(number, low, high):
    return type(number) is int and low <= number <= high


def stream(block, seed, k):
    """The row of a seed in longer: what is put out, and then the last state."""
    out = ""
    for _ in range(k):
        row = block[3][value(seed)]
        out += row[block[1]]
        seed = row[:block[1]]
    return out + seed


def leaf(block, label, path):
    """The label below this one along the path."""
    if path == "":
        return label
    row = block[3][value(label)]
    half = row[:block[1]] if path[0] == "0" else row[block[1]:]
    return leaf(block, half, path[1:])


def layer_of(name, number, inner):
    """What one layer makes of a table, or None where it does not fit."""
    if inner[0] == "generator":
        _, n, m, rows = inner
        if name == "longer" and m == n + 1 and is_number(number, 1, 20):
            return ("generator", n, n + number, tuple(stream(inner, seed, number) for seed in strings(n)))
        if name == "tree" and m == 2 * n and is_number(number, 1, 8) and n <= 8 and n + number <= 12:
            tables = tuple(tuple(leaf(inner, key, x) for x in strings(number)) for key in strings(n))
            return ("function", n, number, n, tables)
        if name == "cut" and is_number(number, 1, m):
            return ("generator", n, number, tuple(row[:number] for row in rows))
    else:
        _, n, l, m, tables = inner
        if name == "counter" and is_number(number, 1, 2 ** l) and number * m <= 40:
            return ("generator", n, number * m, tuple("".join(row[at] for at in range(number)) for row in tables))
    return None


def table_of(scheme, block, depth=1):
    """What the scheme builds, or None if it is no scheme, is too deep or does not fit."""
    if type(scheme) is not tuple or depth > 8 or not scheme or type(scheme[0]) is not str:
        return None
    if len(scheme) == 1:
        return block if scheme[0] == "block" else None
    if len(scheme) != 3:
        return None
    inner = table_of(scheme[2], block, depth + 1)
    return None if inner is None else layer_of(scheme[0], scheme[1], inner)


def goal_fits(goal, block):
    if type(goal) is not tuple or not goal or type(goal[0]) is not str or goal[0] not in NAMES:
        return False
    name, parts = goal[0], goal[1:]
    if len(parts) != (2 if name == "opening" else 1):
        return False
    whole = table_of(parts[-1], block)
    if whole is None:
        return False
    if name == "opening" and not (type(parts[0]) is str and len(parts[0]) == whole[2] and set(parts[0]) <= {*"01"}):
        return False
    return whole[0] == {"marks": "function", "secrets": "function"}.get(name, "generator") or name == "tell"


def games_of(goal, block):
    """The games whose chances make the gain, each with the sign of its chance; without them 1/2 is taken off."""
    name, whole = goal[0], table_of(goal[-1], block)
    if name == "tell":
        return [((whole[0], whole, True), 1), ((whole[0], whole, False), -1)]
    if name == "marks":
        return [(("marks", whole, True), 1), (("marks", whole, False), -1)]
    if name == "next":
        return [(("next", whole, True), 1)]
    begin = ("opening", whole, goal[1]) if name == "opening" else (name, whole)
    return [((*begin, True, 1), 1), ((*begin, True, 0), -1), ((*begin, False, 1), -1), ((*begin, False, 0), 1)]


def gain_and_ways(goal, block, breaker):
    """The gain, by a count of all rows of choices, and the ways of each game that it takes."""
    gain, ways = Fraction(0), []
    for game, sign in games_of(goal, block):
        chance, many = chance_and_ways(game, breaker)
        gain += sign * chance
        ways.append(many)
    return (gain - Fraction(1, 2) if goal[0] == "next" else gain), ways


def asks_of(breaker):
    """The most asks of a plain breaker, or of a made one."""
    kind = breaker[0]
    if kind == "ask":
        return 1 + asks_of(breaker[2])
    if kind == "look":
        return max(asks_of(breaker[2]), asks_of(breaker[3]))
    if kind == "toss":
        return max(asks_of(inner) for inner in breaker[1])
    if kind == "marks":
        return 1 + asks_of(breaker[-1])
    if kind == "secrets":
        return asks_of(breaker[-1])
    return breaker[2] if kind == "counter" else 0


def carry(goal, block, breaker):
    """The pair that carried gives: the layers are taken off one by one from the outside."""
    name, scheme = goal[0], goal[-1]
    whole = table_of(scheme, block)
    number = {"tell": 1, "marks": 1, "next": 1}.get(name, 2)
    if name in ("marks", "secrets"):
        breaker = (name, whole[2], whole[3], breaker)
    elif name in ("once", "next"):
        breaker = ("once" if name == "once" else "guess", whole[2], breaker)
    elif name == "opening":
        breaker = ("opening", goal[1], breaker)
    while scheme != ("block",):
        layer, size, scheme = scheme
        inner = table_of(scheme, block)
        if layer == "longer":
            breaker, number = ("longer", inner, size, breaker), number * size
        elif layer == "tree":
            q = asks_of(breaker) or 1
            places = [1 for j in range(size) for t in range(2 ** j) if t < q]
            breaker, number = ("tree", inner, size, q, breaker), number * len(places)
        elif layer == "counter":
            breaker = ("counter", inner[2], size, inner[3], breaker)
        else:
            breaker = ("cut", size, breaker)
    return breaker, number


def some_schemes(block, layers, sizes=(1, 2, 3)):
    """All schemes of so many layers over the block, with these numbers, that fit."""
    if layers == 0:
        return [("block",)]
    found = []
    for inner in some_schemes(block, layers - 1, sizes):
        for name in ("longer", "tree", "counter", "cut"):
            for size in sizes:
                if table_of((name, size, inner), block) is not None:
                    found.append((name, size, inner))
    return found


def goals_over(scheme, block):
    """The goals over a scheme that fit the block, opening with two strings."""
    whole = table_of(scheme, block)
    if whole[0] == "function":
        return [("tell", scheme), ("marks", scheme), ("secrets", scheme)]
    m = whole[2]
    return [("tell", scheme), ("once", scheme), ("opening", "1" * m, scheme),
            ("opening", string_of(m, 5 % 2 ** m), scheme), ("next", scheme)]
