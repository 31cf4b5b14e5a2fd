"""Processes: what breakers and games do, step by step.

A process is a tuple of three parts: ("draw", many, then), ("ask", string, then) or ("end", value, None).
then is a function: from the choice, or from the answer, it makes the process that follows.
No process is ever modified, so the same one can be followed along each of its choices.
"""

from breakback.bits import bits


def end(value):
    """Return the process that has ended with this value."""
    return ("end", value, None)


def draw(many, then):
    """Return the process that draws one of so many numbers and goes on as told by then."""
    return ("draw", many, then)


def draw_bits(length, then):
    """Return the process that draws any string of so many bits and goes on as told by then."""
    return draw(1 << length, lambda number: then(bits(length, number)))


def draw_strings(length, many, drawn, then):
    """Return the process that draws so many strings, puts them behind those drawn, and goes on with all."""
    if many == 0:
        return then(drawn)
    return draw_bits(length, lambda string: draw_strings(length, many - 1, (*drawn, string), then))


def ask(string, then):
    """Return the process that asks this string and goes on as told by then."""
    return ("ask", string, then)


def after(process, onward):
    """Return the process that does this one first and then what onward makes of its value."""
    kind, what, then = process
    if kind == "end":
        return onward(what)
    return (kind, what, lambda reply: after(then(reply), onward))


def serve(process, state, answer, finish):
    """Return what this process becomes when its asks are answered here.

    answer makes of the state and an ask a process that ends with the next state and the answer;
    an answer None means that the process is not gone on with. finish makes of the last state and
    the value of the process (None if it was not gone on with) the process that follows.
    """
    # A loop, as a process may ask hundreds of times one behind the other without a draw.
    while process[0] == "ask":
        _, string, then = process
        served = answer(state, string)
        if served[0] != "end":
            return after(served, lambda given: serve(told(then, given[1]), given[0], answer, finish))
        state, reply = served[1]
        process = told(then, reply)
    kind, what, follow = process
    if kind == "end":
        return finish(state, what)
    return draw(what, lambda choice: serve(follow(choice), state, answer, finish))


def told(then, reply):
    """Return what a process goes on as with this answer; with None it ends."""
    return end(None) if reply is None else then(reply)


def no_answer(state, _):
    """Answer an ask by the empty string; nothing else happens."""
    return end((state, ""))


def as_said(_, said):
    """End with what was said, whatever the state."""
    return end(said)


def quiet(process):
    """Return what this process becomes when all its asks are answered by the empty string."""
    return serve(process, None, no_answer, as_said)
