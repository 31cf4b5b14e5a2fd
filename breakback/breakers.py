"""Breakers: which tuples are breakers, their texts, and how often they ask.

The names G, f, l, m, n, k, d, q, c, b and r are those of the document.
"""

from breakback.blocks import MOST_BITS, are_rows, is_generator, is_whole
from breakback.errors import BadBreaker
from breakback.texts import breaker_of, text_of

DEEPEST_PLAIN = 60
MOST_WITHIN = 2000
MOST_TOSSED = 64
LAST_BIT = 9999
DEEPEST_MADE = 20

# For each made breaker with numbers alone ahead of the inner one: the least and the greatest of each.
NUMBERS = {
    "marks": ((1, 40), (1, 40)),
    "secrets": ((1, 40), (1, 40)),
    "once": ((1, 40),),
    "counter": ((1, 40), (1, 256), (1, 40)),
    "cut": ((1, 40),),
    "next": ((1, 40),),
    "guess": ((1, 40),),
    "bit": (),
    "hard": ((1, 10),),
}


def are_numbers(own, bounds):
    """Tell whether these are as many integers as there are bounds, each within its own."""
    if len(own) != len(bounds):
        return False
    return all([is_whole(value, low, high) for value, (low, high) in zip(own, bounds)])


def fits_longer(own):
    """Tell whether these are a generator G and a number k that longer takes."""
    if len(own) != 2 or not is_generator(own[0]):
        return False
    n, m = own[0][1:3]
    return m == n + 1 and is_whole(own[1], 1, 20)


def fits_tree(own):
    """Tell whether these are a generator G and a number d that tree takes, and a number q."""
    if len(own) != 3 or not is_generator(own[0]):
        return False
    n, m = own[0][1:3]
    return m == 2 * n and n <= 8 and is_whole(own[1], 1, min(8, 12 - n)) and is_whole(own[2], 1, 1000)


def fits_opening(own):
    """Tell whether this is one string r of 1 to 40 bits."""
    if len(own) != 1 or not isinstance(own[0], str):
        return False
    return 1 <= len(own[0]) <= MOST_BITS and are_rows(own, 1, len(own[0]))


def fits_onetime(own):
    """Tell whether these are a generator f and a number l."""
    return len(own) == 2 and is_generator(own[0]) and is_whole(own[1], 1, 4)


# The made breakers with something else than numbers ahead of the inner one.
FITTING = {"longer": fits_longer, "tree": fits_tree, "opening": fits_opening, "onetime": fits_onetime}


def is_made(value):
    """Tell whether the value is a tuple that begins as a made breaker."""
    if not isinstance(value, tuple) or value == () or not isinstance(value[0], str):
        return False
    return value[0] in NUMBERS or value[0] in FITTING


def fits_kind(made):
    """Tell whether all parts of a made breaker but the inner one are as told."""
    kind, own = made[0], made[1:-1]
    if kind in NUMBERS:
        return are_numbers(own, NUMBERS[kind])
    fits = FITTING[kind]
    return fits(own)


def is_part(value):
    """Tell whether the value is a sign or the number of a bit."""
    if isinstance(value, str):
        return value in ("0", "1")
    return is_whole(value, 0, LAST_BIT)


def are_parts(value):
    """Tell whether the value is a tuple of signs and numbers of bits."""
    return isinstance(value, tuple) and all([is_part(part) for part in value])


def looks_plain(value):
    """Tell whether the value is a plain breaker, whatever stands in the places of those within."""
    if not isinstance(value, tuple) or value == ():
        return False
    kind, many = value[0], len(value)
    if kind == "say":
        return many == 2 and are_parts(value[1])
    if kind == "toss":
        return many == 2 and isinstance(value[1], tuple) and 1 <= len(value[1]) <= MOST_TOSSED
    if kind == "look":
        return many == 4 and is_whole(value[1], 0, LAST_BIT)
    return kind == "ask" and many == 3 and are_parts(value[1])


def directly_within(plain):
    """Return the breakers that stand directly in a plain breaker."""
    return plain[1] if plain[0] == "toss" else plain[2:]


def is_plain_breaker(value):
    """Tell whether the value is a plain breaker."""
    waiting = [(value, 1)]
    many = 0
    # The bounds are looked at on the way: one tuple may stand at many places, and values be of any depth.
    while waiting:
        part, depth = waiting.pop()
        many += 1
        if many > MOST_WITHIN + 1 or depth > DEEPEST_PLAIN or not looks_plain(part):
            return False
        waiting.extend([(inner, depth + 1) for inner in directly_within(part)])
    return True


def check_breaker(breaker):
    """Return None if this is a plain or a made breaker; otherwise raise BadBreaker."""
    inner = breaker
    depth = 0
    while is_made(inner):
        depth += 1
        if depth > DEEPEST_MADE:
            raise BadBreaker("made breakers are nested deeper than 20")
        if not fits_kind(inner):
            raise BadBreaker("a part of a made breaker is not as told")
        if inner[0] == "onetime" and is_made(inner[-1]):
            raise BadBreaker("onetime has a plain breaker inside")
        inner = inner[-1]
    if not is_plain_breaker(inner):
        raise BadBreaker("this is neither a plain breaker nor made over one")


def is_plain(breaker):
    """Tell whether the breaker is plain."""
    check_breaker(breaker)
    return not is_made(breaker)


def plain_asks(breaker):
    """Return the greatest number of asks on any way through a plain breaker."""
    most = 0
    waiting = [(breaker, 0)]
    while waiting:
        part, asks = waiting.pop()
        if part[0] == "ask":
            asks += 1
        most = max(most, asks)
        waiting.extend([(inner, asks) for inner in directly_within(part)])
    return most


def most_asks(breaker):
    """Return the most asks of a breaker."""
    check_breaker(breaker)
    own = 0
    inner = breaker
    while inner[0] in ("marks", "secrets"):
        if inner[0] == "marks":
            own += 1
        inner = inner[-1]
    if inner[0] == "counter":
        return own + inner[2]
    return own if is_made(inner) else own + plain_asks(inner)


def read_breaker(text):
    """Return the tuple that the text of a plain breaker tells, or raise BadText."""
    return breaker_of(text)


def write_breaker(breaker):
    """Return the text of a plain breaker."""
    check_breaker(breaker)
    if is_made(breaker):
        raise BadBreaker("only plain breakers have a text")
    return text_of(breaker)
