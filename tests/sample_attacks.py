"""Goals with plain breakers that have something to gain at them, the same in every run."""

import itertools

from tests.model_schemes import goals_over, some_schemes, table_of
from tests.sample_breakers import KEEN, ONE, ZERO, ask, breakers, look, say, toss
from tests.samples import function, generator, strings

SMALL = (generator(1, 2), ("generator", 1, 2, ("00", "11")), ("generator", 1, 2, ("10", "01")), generator(2, 3),
         generator(2, 4), function(1, 1, 1), function(2, 1, 2), function(1, 2, 1), function(2, 2, 1, "two"))


def tries(goal, block, drawn=3, keen=slice(None)):
    """Plain breakers for a goal: a few that are made for it, and so many drawn ones."""
    name, whole = goal[0], table_of(goal[-1], block)
    return (for_generators if whole[0] == "generator" else for_functions)(name, whole, drawn, keen)


def for_generators(name, whole, drawn, keen):
    m = whole[2]
    if name != "once":
        return [*KEEN[4:][keen], *breakers((name, whole[:3]), drawn, depth=4, asks=(1, m), last=m, ways=2)]
    messages = "0" * m + "1" * m
    return [ask(messages, after) for after in KEEN[4:][keen]] + breakers(
        (name, m), drawn, depth=4, asks=(2 * m, 2 * m, m), last=2 * m, ways=2)


def for_functions(name, whole, drawn, keen):
    _, _, l, m, _ = whole
    first, second = "0" * l, "1" * l
    last = 2 * m
    if name == "tell":
        same = look(0, look(m, ONE, ZERO), look(m, ZERO, ONE))
        tried = [ask(first, KEEN[4]), ask(second, ask(first, same)), ("ask", (0,) * l, ask(second, look(m, ZERO, ONE))),
                 ask(second, look(0, say("10"), ONE)),
                 ask(first, ask(first + "0", ("ask", (0,) * l, toss(same, KEEN[4]))))]
        return tried[keen] + breakers((name, l, m), drawn, depth=4, asks=(l, l, l + 1), last=last, ways=2)
    if name == "marks":
        tried = [ask(first, ("say", ("1",) * l + parts)) for parts in itertools.product(("0", 0), repeat=m)]
        tried += [ask(second, ask(first, ("say", ("0",) * (l - 1) + ("1",) + (0,) * m))), say(second + "0" * m)]
        return tried[keen] + breakers((name, l, m), drawn, depth=4, asks=(l, l, l + 1), says=(l + m, l + m, l),
                                      last=last, ways=2)
    messages = "0" * m + "1" * m
    tried = [ask(messages, after) for after in (look(l, ZERO, ONE), ("say", (0,)), look(0, ("say", (l,)), ZERO))]
    # Asked twice, the same string may come: then the difference of the messages is seen.
    same = look(0, look(l + m, ("say", (l,)), ZERO), look(l + m, ZERO, ("say", (2 * l + m,))))
    tried += [ask("0" * 2 * m, ask(messages, same)), ask(messages, look(0, ("say", (l,)), toss(ONE, ("say", (l,)))))]
    return tried[keen] + breakers((name, l, m), drawn, depth=3, asks=(2 * m, 2 * m, m), last=2 * (l + m), ways=2)


def attacks(blocks, layers, sizes=(1, 2, 3), drawn=2, every=1, keen=slice(None)):
    """Blocks, goals over schemes of so many layers, and breakers; of the schemes only each so many-th one."""
    for block in blocks:
        for scheme in some_schemes(block, layers, sizes)[::every]:
            whole = table_of(scheme, block)
            if whole[2] > 6 or whole[0] == "function" and whole[3] > 4:
                continue
            for goal in goals_over(scheme, block):
                for breaker in tries(goal, block, drawn, keen):
                    yield block, goal, breaker


def all_messages(n, most):
    """All strings of a multiple of n bits, of at most so many bits."""
    for length in range(n, most + 1, n):
        yield from strings(length)
