"""The rules of each game.

Each function here takes the parts of a game behind its name and a function meet. It returns the process that
draws what the game begins with and then goes on as meet makes of four things: the challenge, a state,
answer and judge. answer makes of a state and an ask a process that ends with the next state and the answer;
judge makes of the last state, the asks with their answers, and what was said a process that ends with the
outcome. The names G, F, f, l, m, n, h, r and b are those of the document.

The state of a function is a tuple (l, m, values, known): values are those under the drawn key, or None where
any function is played; known holds what was drawn for such a one so far.
"""

from breakback.bits import all_bits, bits, number_of, parity, xor
from breakback.pieces import guess_of, hint, message_of, places_of, wins_onetime
from breakback.processes import after, draw, draw_bits, draw_strings, end, no_answer


def outcome(won):
    """Return the process that ends with the outcome 1 if the breaker has won, otherwise 0."""
    return end(1 if won else 0)


def said_one(state, asked, said):
    """Judge that the breaker wins by saying "1"."""
    return outcome(said == "1")


def guesses_bit(bit):
    """Return the judge for whom the breaker wins by guessing this bit."""
    return lambda state, asked, said: outcome(guess_of(said) == bit)


def draw_row(block, real, then):
    """Draw the row of any seed of a generator, or any string of as many bits."""
    _, n, m, rows = block
    if real:
        return draw(1 << n, lambda seed: then(rows[seed]))
    return draw_bits(m, then)


def draw_function(block, real, then):
    """Draw the key of a function, or nothing yet if any function is played; go on with its state."""
    _, n, l, m, tables = block
    if real:
        return draw(1 << n, lambda key: then((l, m, tables[key], {})))
    return then(any_function(l, m))


def any_function(l, m):
    """Return the state of any function from l to m bits, of which nothing is known yet."""
    return (l, m, None, {})


def value_at(function, x):
    """Return the process that ends with the next state of a function and its value at x."""
    l, m, values, known = function
    if values is not None:
        return end((function, values[number_of(x)]))
    if x in known:
        return end((function, known[x]))
    return draw_bits(m, lambda value: end(((l, m, values, {**known, x: value}), value)))


def function_answer(function, string):
    """Answer a string of l bits by the function's value."""
    if len(string) != function[0]:
        return end((function, ""))
    return value_at(function, string)


def generator_game(parts, meet):
    """Tell the rows of a generator from any strings."""
    block, real = parts
    return draw_row(block, real, lambda row: meet(row, None, no_answer, said_one))


def function_game(parts, meet):
    """Tell a keyed function from any function."""
    block, real = parts
    return draw_function(block, real, lambda function: meet("", function, function_answer, said_one))


def permutation_game(parts, meet):
    """Ask any permutation of the strings of l bits."""
    l = parts[0]

    def answer(known, string):
        if len(string) != l:
            return end((known, ""))
        if string in known:
            return end((known, known[string]))
        given = list(known.values())
        left = [other for other in all_bits(l) if other not in given]
        return draw(len(left), lambda number: end(({**known, string: left[number]}, left[number])))

    return meet("", {}, answer, said_one)


def swaps_game(parts, meet):
    """Ask a permutation of the strings of 2h bits that is made of any functions, one for each round."""
    h, rounds = parts

    def answer(functions, string):
        if len(string) != 2 * h:
            return end((functions, ""))
        return swap(functions, 0, string[:h], string[h:])

    return meet("", (any_function(h, h),) * rounds, answer, said_one)


def swap(functions, at, left, right):
    """Return the process that goes through the rounds from this one on; it ends with the state and the answer."""
    if at == len(functions):
        return end((functions, left + right))

    def swapped(found):
        function, value = found
        return swap(functions[:at] + (function,) + functions[at + 1:], at + 1, right, xor(left, value))

    return after(value_at(functions[at], right), swapped)


def marks_game(parts, meet):
    """Find the mark of a string that was not asked."""
    block, real = parts

    def judge(function, asked, said):
        l, m = function[:2]
        x = said[:l]
        if len(said) != l + m or x in [string for string, _ in asked]:
            return outcome(False)
        return after(value_at(function, x), lambda found: outcome(found[1] == said[l:]))

    return draw_function(block, real, lambda function: meet("", function, function_answer, judge))


def secrets_game(parts, meet):
    """Tell which one of two messages is hidden, asking as often as one likes."""
    block, real, b = parts
    return draw_function(block, real, lambda function: meet("", function, hide_by(b), said_one))


def hide_by(b):
    """Return what answers two messages by any string r and the one for b, hidden by the function's value at r."""
    def answer(function, string):
        l, m = function[:2]
        if len(string) != 2 * m:
            return end((function, ""))
        message = message_of(string, b)

        def with_string(r):
            return after(value_at(function, r), lambda found: end((found[0], r + xor(found[1], message))))

        return draw_bits(l, with_string)

    return answer


def once_game(parts, meet):
    """Tell which one of two messages is hidden, asking once."""
    block, real, b = parts
    m = block[2]

    # The state is the string that hides the message, or None when it is used.
    def answer(pad, string):
        if pad is None or len(string) != 2 * m:
            return end((pad, ""))
        return end((None, xor(pad, message_of(string, b))))

    return draw_row(block, real, lambda row: meet("", row, answer, said_one))


def opening_game(parts, meet):
    """Tell to which bit one has committed oneself."""
    block, r, real, b = parts

    def with_row(row):
        return meet(xor(row, r) if b == 1 else row, None, no_answer, said_one)

    return draw_row(block, real, with_row)


def next_game(parts, meet):
    """Guess the bit behind the first ones of a row."""
    block, real = parts

    def with_place(i):
        return draw_row(block, real, lambda row: meet(hint(row, i), None, no_answer, guesses_bit(row[i])))

    return draw(block[2], with_place)


def inverse_game(parts, meet):
    """Find a string with the same row."""
    _, n, _, rows = parts[0]

    def with_row(row):
        def judge(state, asked, said):
            return outcome(len(said) == n and rows[number_of(said)] == row)

        return meet(row, None, no_answer, judge)

    return draw_row(parts[0], True, with_row)


def onetime_game(parts, meet):
    """Open the strings that stand for a message which was not answered."""
    block, l = parts
    _, n, _, rows = block

    def answer_with(strings):
        def answer(answered, message):
            if answered is not None or len(message) != l:
                return end((answered, ""))
            return end((message, "".join([strings[place] for place in places_of(message)])))

        return answer

    def with_strings(strings):
        shown = [rows[number_of(string)] for string in strings]

        def judge(answered, asked, said):
            return outcome(wins_onetime(block, shown, answered, said))

        return meet("".join(shown), None, answer_with(strings), judge)

    return draw_strings(n, 2 * l, (), with_strings)


def hard_game(parts, meet):
    """Guess the parity of the places at which a hidden string and a shown one both have 1."""
    _, n, _, rows = parts[0]

    def with_strings(drawn):
        x, r = drawn
        return meet(rows[number_of(x)] + r, None, no_answer, guesses_bit(bits(1, parity(x, r))))

    return draw_strings(n, 2, (), with_strings)


RULES = {
    "generator": generator_game, "function": function_game, "permutation": permutation_game, "swaps": swaps_game,
    "marks": marks_game, "secrets": secrets_game, "once": once_game, "opening": opening_game, "next": next_game,
    "inverse": inverse_game, "onetime": onetime_game, "hard": hard_game,
}
