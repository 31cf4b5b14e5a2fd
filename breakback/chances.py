"""Chances, found by going through all ways in which the draws can fall, and the fractions that they are."""

from math import gcd

from breakback.blocks import check_block
from breakback.breakers import check_breaker
from breakback.errors import TooMany
from breakback.games import check_game, contest


def fraction(numerator, denominator):
    """Return the fraction in lowest terms, the denominator above 0."""
    common = gcd(numerator, denominator)
    if denominator < 0:
        common = -common
    return (numerator // common, denominator // common)


def add(first, second):
    """Return the sum of two fractions."""
    return fraction(first[0] * second[1] + second[0] * first[1], first[1] * second[1])


def less(first, second):
    """Return the first fraction less the second."""
    return add(first, (-second[0], second[1]))


def times(first, second):
    """Return the product of two fractions."""
    return fraction(first[0] * second[0], first[1] * second[1])


def tally(process, most):
    """Return the number of ways, and in a dict by the product of the numbers drawn among how many of them win.

    TooMany is raised if there are more than most ways.
    """
    won = {}
    ways_seen = 1
    # Each entry is a draw: what follows it, the next choice, among how many, and the product down to it.
    waiting = [(lambda choice: process, 0, 1, 1)]
    while waiting:
        then, choice, many, product = waiting.pop()
        if choice + 1 < many:
            waiting.append((then, choice + 1, many, product))
        kind, what, follow = then(choice)
        if kind == "end":
            won[product] = won.get(product, 0) + what[0]
            continue
        # Each draw has at least one way for each choice, so too many are seen before they are gone through.
        ways_seen += what - 1
        if ways_seen > most:
            raise TooMany("there are more ways than the most that is allowed")
        waiting.append((follow, 0, what, product * what))
    return ways_seen, won


def counted(game, breaker, most):
    """Check a game and a breaker and return what tally finds of them."""
    check_game(game)
    check_breaker(breaker)
    return tally(contest(game, breaker), most)


def chance(game, breaker, *, most=300000):
    """Return the chance of a game and a breaker; raise TooMany if there are more than most ways."""
    _, won = counted(game, breaker, most)
    total = (0, 1)
    for product, many in won.items():
        total = add(total, fraction(many, product))
    return total


def ways(game, breaker, *, most=300000):
    """Return the number of ways of a game and a breaker; raise TooMany if there are more than most."""
    many, _ = counted(game, breaker, most)
    return many


def advantage(block, breaker, *, most=300000):
    """Return the advantage of a breaker in the game of the block."""
    check_block(block)
    check_breaker(breaker)
    real = chance((block[0], block, True), breaker, most=most)
    return less(real, chance((block[0], block, False), breaker, most=most))
