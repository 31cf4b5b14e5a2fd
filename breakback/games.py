"""Games: which tuples are games, and plays of a breaker in a game."""

from breakback.blocks import are_rows, is_function, is_generator, is_whole
from breakback.breakers import check_breaker
from breakback.errors import BadChoice, BadGame
from breakback.moves import run
from breakback.processes import after, end, serve
from breakback.rules import RULES

# The parts of each game behind its name.
PARTS = {
    "generator": ("generator", "real"),
    "function": ("function", "real"),
    "permutation": ("1 to 8",),
    "swaps": ("1 to 4", "1 to 4"),
    "marks": ("function", "real"),
    "secrets": ("function", "real", "bit"),
    "once": ("generator", "real", "bit"),
    "opening": ("generator", "string", "real", "bit"),
    "next": ("generator", "real"),
    "inverse": ("generator",),
    "onetime": ("generator", "1 to 4"),
    "hard": ("generator",),
}
BOUNDS = {"1 to 8": (1, 8), "1 to 4": (1, 4), "bit": (0, 1)}


def fits(value, told, game):
    """Tell whether a part of a game is as told, where those ahead of it are."""
    if told in BOUNDS:
        low, high = BOUNDS[told]
        return is_whole(value, low, high)
    if told == "generator":
        return is_generator(value)
    if told == "function":
        return is_function(value)
    if told == "real":
        return isinstance(value, bool)
    return are_rows((value,), 1, game[1][2])


def check_game(game):
    """Return None if this is a game; otherwise raise BadGame."""
    if not isinstance(game, tuple) or game == () or not isinstance(game[0], str) or game[0] not in PARTS:
        raise BadGame("this does not begin as a game")
    parts = PARTS[game[0]]
    if len(game) != 1 + len(parts):
        raise BadGame("a game has a part too many or too few")
    for value, told in zip(game[1:], parts):
        if not fits(value, told, game):
            raise BadGame("a part of a game is not as told")


def contest(game, breaker):
    """Return the process of a game with a breaker: it draws, and ends with the outcome, what was said, and the asks.

    The asks are a tuple of pairs of an ask and its answer.
    """
    lead = RULES[game[0]]

    def meet(challenge, first, answer, judge):
        def note(held, string):
            state, asked = held
            return after(answer(state, string), lambda given: end(((given[0], (*asked, (string, given[1]))), given[1])))

        def finish(held, said):
            state, asked = held
            return after(judge(state, asked, said), lambda outcome: end((outcome, said, asked)))

        return serve(run(breaker, challenge), (first, ()), note, finish)

    return lead(game[1:], meet)


class Play:
    """One run of a breaker in a game."""

    def __init__(self, outcome, said, draws, asked):
        self.outcome = outcome
        self.said = said
        self.draws = draws
        self.asked = asked


def play(game, breaker, choices):
    """Return the play of a breaker in a game that takes these choices, and 0 where they have ended."""
    check_game(game)
    check_breaker(breaker)
    draws = []
    process = contest(game, breaker)
    while process[0] == "draw":
        _, many, then = process
        choice = choices[len(draws)] if len(draws) < len(choices) else 0
        if not is_whole(choice, 0, many - 1):
            raise BadChoice("a choice is not from 0 to below the number of which it is one")
        draws.append((choice, many))
        process = then(choice)
    outcome, said, asked = process[1]
    return Play(outcome, said, draws, list(asked))
