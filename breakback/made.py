"""How made breakers are run.

Each function here takes the parts of a made breaker between its name and the inner one, a function
that begins the inner one with what that is handed, and the challenge; it returns the made one's process.
The names are those of the document; places and numbers count from 0.
"""

from breakback.bits import bits, number_of, xor
from breakback.blocks import go_down, put_out
from breakback.pieces import guess_of, hint, message_of, places_of, wins_onetime
from breakback.processes import after, ask, draw, draw_bits, draw_strings, end, quiet, serve


def verdict(said, b):
    """Return what a made breaker says for the bit b when the inner one has said this: "1" if it is right."""
    return "1" if (said == "1") == (b == 1) else "0"


def lead_longer(own, begin, challenge):
    """Hand on any bits, then the challenge's last bit, then what is put out from its state on."""
    block, k = own
    n, rows = block[1], block[3]
    state, last = challenge[:n], challenge[n:]

    def with_place(i):
        rest = put_out(rows, state, k - i - 1)
        return draw_bits(i, lambda p: quiet(begin(p + last + rest)))

    return draw(k, with_place)


def lead_tree(own, begin, challenge):
    """Answer from a tree in which one label's row is the challenge: above it any labels, below it right ones."""
    block, d, q = own
    places = [(j, t) for j in range(d) for t in range(min(1 << j, q))]

    def with_place(number):
        j, t = places[number]
        return in_tree(block, d, (j, t, challenge), begin(""))

    return draw(len(places), with_place)


def in_tree(block, d, place, inner):
    """Return what the inner process becomes when place t of level j has the two halves of this row below it."""
    _, n, _, rows = block
    j, t, row = place

    def answer(visited, x):
        if len(x) != d:
            return end((visited, ""))
        top = x[:j]

        def with_labels(both):
            label = both[n:] if x[j] == "1" else both[:n]
            return end(({**visited, top: both}, go_down(rows, label, x[j + 1:])))

        if top in visited:
            return with_labels(visited[top])
        if len(visited) == t:
            return with_labels(row)
        if len(visited) < t:
            return draw_bits(2 * n, with_labels)
        return draw(1 << n, lambda seed: with_labels(rows[seed]))

    return serve(inner, {}, answer, lambda visited, said: end(said))


def lead_counter(own, begin, challenge):
    """Ask the first c strings and hand on the answers."""
    l, c, _ = own

    def with_answers(number, heard):
        if number == c:
            return quiet(begin(heard))
        return ask(bits(l, number), lambda answer: with_answers(number + 1, heard + answer))

    return with_answers(0, "")


def lead_cut(own, begin, challenge):
    """Hand on the first b bits."""
    return quiet(begin(challenge[:own[0]]))


def lead_marks(own, begin, challenge):
    """Hand all asks on, and ask in the end whether the mark is right."""
    l, m = own

    def answer(asked, string):
        return ask(string, lambda reply: end(((*asked, string), reply)))

    def finish(asked, said):
        x = said[:l]
        if len(said) != l + m or x in asked:
            return end("0")
        return ask(x, lambda mark: end("1" if mark == said[l:] else "0"))

    return serve(begin(""), (), answer, finish)


def lead_secrets(own, begin, challenge):
    """Draw b and play the game secrets with the function that is asked."""
    l, m = own

    def with_bit(b):
        def answer(state, string):
            if len(string) != 2 * m:
                return end((state, ""))
            message = message_of(string, b)
            return draw_bits(l, lambda r: ask(r, lambda pad: end((state, r + xor(pad, message)))))

        return serve(begin(""), None, answer, lambda state, said: end(verdict(said, b)))

    return draw(2, with_bit)


def lead_once(own, begin, challenge):
    """Draw b and play the game once with the challenge."""
    m = own[0]

    def with_bit(b):
        def answer(used, string):
            if used or len(string) != 2 * m:
                return end((used, ""))
            return end((True, xor(challenge, message_of(string, b))))

        return serve(begin(""), False, answer, lambda used, said: end(verdict(said, b)))

    return draw(2, with_bit)


def lead_opening(own, begin, challenge):
    """Draw b and play the game opening with the challenge."""
    r = own[0]

    def with_bit(b):
        handed = xor(challenge, r) if b == 1 else challenge
        return after(quiet(begin(handed)), lambda said: end(verdict(said, b)))

    return draw(2, with_bit)


def lead_next(own, begin, challenge):
    """Fill the challenge up with any bits; guess the first of them if the inner one says 1."""
    m = own[0]
    known = challenge[:challenge.rfind("1")]

    def with_rest(rest):
        return after(quiet(begin(known + rest)), lambda said: end(verdict(said, number_of(rest[:1]))))

    return draw_bits(m - len(known), with_rest)


def lead_guess(own, begin, challenge):
    """Draw a place, and see whether the inner one guesses the bit there."""
    m = own[0]

    def with_place(i):
        handed = hint(challenge, i)
        return after(quiet(begin(handed)), lambda said: end("1" if guess_of(said) == challenge[i] else "0"))

    return draw(m, with_place)


def lead_onetime(own, begin, challenge):
    """Set the challenge among rows of own strings; say the string for it that the inner one finds."""
    block, l = own
    _, n, _, rows = block

    def with_place(v):
        return draw_strings(n, 2 * l - 1, (), lambda others: with_strings(v, others[:v] + ("",) + others[v:]))

    def with_strings(v, strings):
        shown = [rows[number_of(string)] for string in strings]
        shown[v] = challenge

        def answer(answered, message):
            if answered is not None or len(message) != l:
                return end((answered, ""))
            places = places_of(message)
            if v in places:
                return end((message, None))
            return end((message, "".join([strings[place] for place in places])))

        def finish(answered, said):
            if said is None or not wins_onetime(block, shown, answered, said) or v not in places_of(said[:l]):
                return end("")
            start = l + (v // 2) * n
            return end(said[start:start + n])

        return serve(begin("".join(shown)), None, answer, finish)

    return draw(2 * l, with_place)


def lead_bit(own, begin, challenge):
    """Draw a bit and hand it on behind the challenge; guess it if the inner one says 1."""
    return draw(2, lambda c: after(quiet(begin(challenge + bits(1, c))), lambda said: end(verdict(said, c))))


def lead_hard(own, begin, challenge):
    """Find the inner one's guess for each r, and say a string the likelier the better it fits them."""
    n = own[0]

    def begun(number):
        return quiet(begin(challenge + bits(n, number)))

    return after(guesses(begun, 1 << n, (), begun(0)), lambda found: pick(n, found))


def guesses(begun, many, found, process):
    """Return the process that ends with so many guesses: those found, that of this process, and further ones."""
    # A loop, as there may be a thousand guesses one behind the other without a draw.
    while process[0] == "end":
        found = (*found, guess_of(process[1]))
        if len(found) == many:
            return end(found)
        process = begun(len(found))
    _, ways, then = process
    return draw(ways, lambda choice: guesses(begun, many, found, then(choice)))


def pick(n, found):
    """Return the process that says one of the strings x, each as likely as the square of its C(x)."""
    squares = [worth * worth for worth in correlations([1 if guess == "0" else -1 for guess in found])]
    owners = [x for x, square in enumerate(squares) for _ in range(square)]
    return draw(len(owners), lambda v: end(bits(n, owners[v])))


def correlations(signs):
    """Return the list of all C(x), signs being 1 or -1 for the guess 0 or 1 at each r."""
    if len(signs) == 1:
        return signs
    # x and r have both 1 at their first bit only in the second half of either: there the signs turn round.
    half = len(signs) // 2
    low, high = correlations(signs[:half]), correlations(signs[half:])
    return [a + b for a, b in zip(low, high)] + [a - b for a, b in zip(low, high)]


LEADERS = {
    "longer": lead_longer, "tree": lead_tree, "marks": lead_marks, "secrets": lead_secrets, "once": lead_once,
    "opening": lead_opening, "counter": lead_counter, "cut": lead_cut, "onetime": lead_onetime, "next": lead_next,
    "guess": lead_guess, "bit": lead_bit, "hard": lead_hard,
}
