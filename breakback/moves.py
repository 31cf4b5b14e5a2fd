"""Breakers run: what they do, one move after the other."""

from breakback.breakers import check_breaker
from breakback.made import LEADERS
from breakback.processes import ask, draw, end


def bit_of(seen, number):
    """Return the bit with this number among the bits that were handed; one that is not there is 0."""
    return seen[number] if number < len(seen) else "0"


def made_of(parts, seen):
    """Return the string that is made of signs and numbers of bits."""
    return "".join([part if isinstance(part, str) else bit_of(seen, part) for part in parts])


def run_plain(breaker, seen):
    """Return the process of a plain breaker that was handed these bits."""
    while breaker[0] == "look":
        _, number, first, second = breaker
        breaker = first if bit_of(seen, number) == "0" else second
    if breaker[0] == "say":
        return end(made_of(breaker[1], seen))
    if breaker[0] == "toss":
        tossed = breaker[1]
        return draw(len(tossed), lambda choice: run_plain(tossed[choice], seen))
    follower = breaker[2]
    return ask(made_of(breaker[1], seen), lambda answer: run_plain(follower, seen + answer))


def run(breaker, challenge):
    """Return the process of a breaker that is handed this challenge."""
    if breaker[0] not in LEADERS:
        return run_plain(breaker, challenge)
    lead = LEADERS[breaker[0]]
    inner = breaker[-1]
    return lead(breaker[1:-1], lambda handed: run(inner, handed), challenge)


def move(breaker, past):
    """Return what a breaker does next: ("draw", many), ("ask", string) or ("say", string)."""
    check_breaker(breaker)
    process = run(breaker, past[0])
    for reply in past[1:]:
        _, _, then = process
        process = then(reply)
    kind, what, _ = process
    return ("say" if kind == "end" else kind, what)
