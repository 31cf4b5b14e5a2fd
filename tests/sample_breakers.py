"""Breakers and games for the tests, the same in every run."""

import random

from tests.samples import function, generator, scrambled

ZERO, ONE = ("say", ("0",)), ("say", ("1",))


def say(text):
    """The breaker that says these signs."""
    return ("say", tuple(text))


def ask(text, then):
    return ("ask", tuple(text), then)


def look(number, first, second):
    return ("look", number, first, second)


def toss(*breakers):
    return ("toss", breakers)


# The breakers that are asked to gain much: they look at each bit in turn.
KEEN = (ONE, ZERO, say(""), say("11"), look(0, ONE, ZERO), look(1, ZERO, ONE), look(2, look(0, ZERO, ONE), ONE),
        look(0, look(1, ONE, ZERO), look(1, ZERO, ONE)), ("say", (1,)), ("say", (0, 1)), toss(ZERO, ("say", (2,)), ONE))


def deep(many, kind="ask"):
    """A plain breaker that is nested so many deep."""
    breaker = ONE
    for at in range(many - 1):
        if kind == "ask":
            breaker = ("ask", (at % 5, "1"), breaker)
        elif kind == "toss":
            breaker = toss(breaker)
        else:
            breaker = look(at, breaker, ZERO)
    return breaker


def some_parts(rng, length, last):
    """So many parts, most of them numbers of bits up to the last."""
    return tuple(rng.choice(("0", "1", *[rng.randrange(last + 1) for _ in range(3)])) for _ in range(length))


def some_plain(rng, depth, asks=(), says=(1,), last=7, ways=8):
    """A plain breaker: asks and says are the lengths that it may ask and say, ways bounds its tosses."""
    kinds = ["say", "look", "look"] + (["ask"] * 4 if asks else []) + (["toss"] if ways >= 2 else [])
    kind = rng.choice(kinds) if depth > 1 else "say"
    if kind == "say":
        return ("say", some_parts(rng, rng.choice(says), last))
    if kind == "look":
        return ("look", rng.randrange(last + 1), some_plain(rng, depth - 1, asks, says, last, ways),
                some_plain(rng, depth - 1, asks, says, last, ways))
    if kind == "ask":
        return ("ask", some_parts(rng, rng.choice(asks), last),
                some_plain(rng, depth - 1, asks, says, last, ways))
    many = rng.choice((1, 2, 2, 3))
    many = many if many <= ways else 2
    return ("toss", tuple(some_plain(rng, depth - 1, asks, says, last, ways // many) for _ in range(many)))


def breakers(name, many, depth=4, **further):
    """So many plain breakers that follow from the name alone, the first few of them very simple."""
    rng = random.Random(repr((name, many, depth)))
    return [some_plain(rng, rng.randrange(1, depth + 1), **further) for _ in range(many)]


def all_different(n, m, name="different"):
    """A generator no two rows of which are the same."""
    order = sorted(range(2 ** m), key=lambda number: scrambled(64, name, n, m, number))
    return ("generator", n, m, tuple(f"{number:0{m}b}" for number in order[:2 ** n]))


G12, G23, G24, F111, F212 = generator(1, 2), generator(2, 3), generator(2, 4), function(1, 1, 1), function(2, 1, 2)
f22 = generator(2, 2)

# Each made breaker over an inner one that is left open.
MADE = (
    ("longer", G23, 3), ("tree", G24, 3, 2), ("marks", 2, 1), ("secrets", 1, 2), ("once", 3), ("opening", "010"),
    ("counter", 2, 3, 2), ("cut", 2), ("onetime", f22, 2), ("next", 3), ("guess", 3), ("bit",), ("hard", 2),
)


def over(made, inner):
    """The made breaker over this inner one."""
    return (*made, inner)


def games(rng):
    """Games of every kind with small blocks, each with the lengths that are asked and said in it."""
    n, m, l, name = rng.choice((1, 2)), rng.choice((1, 2, 3)), rng.choice((1, 2)), rng.random()
    block, keyed = generator(n, m, name), function(n, l, m, name)
    real, b = rng.choice((True, False)), rng.choice((0, 1))
    h = rng.choice((1, 2))
    return (
        (("generator", block, real), (1,), (1,)), (("function", keyed, real), (l, l, l + 1), (1,)),
        (("permutation", l), (l, l, 3), (1,)), (("swaps", h, rng.randrange(1, 5)), (2 * h, 2 * h, 1), (1,)),
        (("marks", keyed, real), (l, l, l + 1), (l + m, l + m, 1)), (("secrets", keyed, real, b), (2 * m, m), (1,)),
        (("once", block, real, b), (2 * m, m), (1,)), (("opening", block, "011"[:m], real, b), (1,), (1,)),
        (("next", block, real), (1,), (1,)), (("inverse", block), (1,), (n, n, 1)),
        (("onetime", block, l), (l, l, 3), (l + l * n, l + l * n, 1)), (("hard", block), (1,), (1,)),
    )


# Made breakers for the games of these blocks, over inner ones that are left open.
LEADING = (
    (("generator", G23, True), ("longer", G23, 3)), (("generator", G24, False), ("tree", G24, 3, 2)),
    (("function", F212, True), ("marks", 1, 2)), (("function", F212, False), ("secrets", 1, 2)),
    (("generator", G23, True), ("once", 3)), (("generator", G23, False), ("opening", "011")),
    (("function", F111, True), ("counter", 1, 2, 1)), (("generator", G23, True), ("cut", 2)),
    (("inverse", G12), ("onetime", G12, 2)), (("next", G23, True), ("next", 3)),
    (("generator", G12, False), ("guess", 2)), (("hard", f22), ("bit",)),
    (("inverse", all_different(2, 2)), ("hard", 2)),
)
