"""Schemes, which tell what is built on a block, goals, and how a breaker of it is led down to the block.

A scheme is ("block",), or a tuple of a layer's name, a number and the scheme that the layer lies on.
The names l, m, q, r and j are those of the document.
"""

from breakback.blocks import are_rows, check_block, counter, cut, hardbits, longer, tree
from breakback.breakers import check_breaker, is_plain, most_asks
from breakback.chances import advantage, chance, less, times
from breakback.errors import BadBlock, BadBreaker, BadScheme

DEEPEST = 8

# The kind of table that each goal is about.
ABOUT = {
    "tell": "any", "marks": "function", "secrets": "function", "once": "generator", "opening": "generator",
    "next": "generator",
}


def layers_of(scheme):
    """Return the pairs of name and number of a scheme's layers, that next to the block first."""
    layers = []
    inner = scheme
    # A loop that counts, as what is no scheme may be nested in any way.
    while inner != ("block",):
        if not isinstance(inner, tuple) or len(inner) != 3:
            raise BadScheme("this is no scheme")
        if len(layers) == DEEPEST - 1:
            raise BadScheme("schemes are nested deeper than 8")
        layers.append(inner[:2])
        inner = inner[2]
    return layers[::-1]


def with_layer(name, number, block):
    """Return what one layer makes of a block."""
    if name == "longer":
        return longer(block, number)
    if name == "tree":
        return tree(block, number)
    if name == "counter":
        return counter(block, number)
    if name == "cut":
        return cut(block, number)
    raise BadScheme("a layer has no such name")


def tables_of(layers, block):
    """Return the list of the block and of what each layer makes of the table ahead of it."""
    tables = [block]
    for name, number in layers:
        tables.append(with_layer(name, number, tables[-1]))
    return tables


def built(scheme, block):
    """Return what the scheme builds on the block; raise BadScheme if it is no scheme or does not fit."""
    check_block(block)
    return tables_of(layers_of(scheme), block)[-1]


def check_goal(goal, block):
    """Return None if this is a goal that fits the block; otherwise raise BadScheme."""
    check_block(block)
    if not isinstance(goal, tuple) or goal == () or not isinstance(goal[0], str) or goal[0] not in ABOUT:
        raise BadScheme("this does not begin as a goal")
    name = goal[0]
    if len(goal) != (3 if name == "opening" else 2):
        raise BadScheme("a goal has a part too many or too few")
    whole = built(goal[-1], block)
    if ABOUT[name] not in ("any", whole[0]):
        raise BadScheme("the goal is for a table of the other kind")
    if name == "opening" and not are_rows((goal[1],), 1, whole[2]):
        raise BadScheme("opening takes a string of m bits")


def check_attack(goal, block, breaker):
    """Check a block, a goal and a breaker, in this order; the breaker must be plain."""
    check_goal(goal, block)
    if not is_plain(breaker):
        raise BadBreaker("a plain breaker is needed here")


def apart(first, second, breaker, most):
    """Return the chance of a breaker in the first game less that in the second."""
    return less(chance(first, breaker, most=most), chance(second, breaker, most=most))


def gain(goal, block, breaker, *, most=300000):
    """Return what a plain breaker gains at a goal; raise TooMany if a chance has more than most ways."""
    check_attack(goal, block, breaker)
    name, whole = goal[0], built(goal[-1], block)
    if name == "tell":
        return advantage(whole, breaker, most=most)
    if name == "marks":
        return apart((name, whole, True), (name, whole, False), breaker, most)
    if name == "next":
        return less(chance((name, whole, True), breaker, most=most), (1, 2))
    begin = (name, whole, *goal[1:-1])
    real = apart((*begin, True, 1), (*begin, True, 0), breaker, most)
    return less(real, apart((*begin, False, 1), (*begin, False, 0), breaker, most))


def led_to_whole(goal, whole, breaker):
    """Return a breaker for the game of what is built, and the number that it costs."""
    name = goal[0]
    if name == "tell":
        return breaker, 1
    if name in ("marks", "secrets"):
        l, m = whole[2:4]
        cost = 1 if name == "marks" else 2
        return (name, l, m, breaker), cost
    if name == "once":
        return (name, whole[2], breaker), 2
    if name == "opening":
        return (name, goal[1], breaker), 2
    return ("guess", whole[2], breaker), 1


def led_down(name, number, table, breaker):
    """Return a breaker for the game of the table that a layer lies on, and the number that it costs."""
    if name == "longer":
        return (name, table, number, breaker), number
    if name == "tree":
        q = max(1, most_asks(breaker))
        return (name, table, number, q, breaker), sum([min(1 << j, q) for j in range(number)])
    if name == "counter":
        l, m = table[2:4]
        return (name, l, number, m, breaker), 1
    return (name, number, breaker), 1


def carried(goal, block, breaker):
    """Return a breaker for the block's game and the number by which it has less than a plain one gains."""
    check_attack(goal, block, breaker)
    layers = layers_of(goal[-1])
    tables = tables_of(layers, block)
    made, number = led_to_whole(goal, tables[-1], breaker)
    for at in range(len(layers) - 1, -1, -1):
        name, size = layers[at]
        made, cost = led_down(name, size, tables[at], made)
        number = number * cost
    return (made, number)


def check_carried(goal, block, breaker, made, number, *, most=300000):
    """Tell whether the advantage of made against the block, times the number, is what the breaker gains."""
    check_attack(goal, block, breaker)
    check_breaker(made)
    gained = gain(goal, block, breaker, most=most)
    return times(advantage(block, made, most=most), (number, 1)) == gained


def is_one_to_one(block):
    """Tell whether this is a generator from n to n bits, n at most 5, no two rows of which are the same."""
    if block[0] != "generator" or block[1] != block[2] or block[1] > 5:
        return False
    return len(set(block[3])) == len(block[3])


def inverter(goal, block, breaker):
    """Return a breaker that inverts the block, made of one that gains at a goal over its hard bits."""
    check_block(block)
    if not is_one_to_one(block):
        raise BadBlock("a generator from n to n bits is needed here, n at most 5, with no two rows the same")
    made, _ = carried(goal, hardbits(block), breaker)
    return ("hard", block[1], ("bit", made))
