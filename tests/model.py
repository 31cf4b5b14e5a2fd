"""Breakers and games told once more after DOC.md, by Python's generators, to hold the program against.

A breaker here is a generator that yields ("draw", many) or ("ask", string), is sent the choice or the answer,
and returns what it says. A game yields the many of each draw and returns (outcome, said, asked).
"""

from fractions import Fraction

PLAIN = ("say", "toss", "look", "ask")


class Stop(Exception):
    """Raised by an answer after which the inner breaker is not gone on with."""


def string_of(length, number):
    return "".join("1" if number >> (length - 1 - at) & 1 else "0" for at in range(length))


def value(string):
    return sum(2 ** (len(string) - 1 - at) for at, sign in enumerate(string) if sign == "1")


def differ(first, second):
    return "".join("0" if one == two else "1" for one, two in zip(first, second))


def common(first, second):
    return sum(one == two == "1" for one, two in zip(first, second)) % 2


def any_string(length):
    number = yield ("draw", 2 ** length)
    return string_of(length, number)


def spell(parts, seen):
    said = ""
    for part in parts:
        if part in ("0", "1"):
            said += part
        else:
            said += (seen + "0" * 10000)[part]
    return said


def plain_steps(breaker, seen):
    while breaker[0] != "say":
        if breaker[0] == "toss":
            choice = yield ("draw", len(breaker[1]))
            breaker = breaker[1][choice]
        elif breaker[0] == "look":
            breaker = breaker[2] if spell((breaker[1],), seen) == "0" else breaker[3]
        else:
            seen += yield ("ask", spell(breaker[1], seen))
            breaker = breaker[2]
    return spell(breaker[1], seen)


def served(inner, handed, answer=None):
    """Run the inner breaker; answer is a generator function from an ask to its answer, without it that is empty."""
    steps = steps_of(inner, handed)
    reply = None
    while True:
        try:
            what, told = steps.send(reply)
        except StopIteration as stop:
            return stop.value
        if what == "draw":
            reply = yield (what, told)
        elif answer is None:
            reply = ""
        else:
            reply = yield from answer(told)


def longer_steps(breaker, challenge):
    _, block, k, inner = breaker
    n = block[1]
    w, c = challenge[:n], challenge[n]
    i = yield ("draw", k)
    handed = (yield from any_string(i)) + c
    for _ in range(k - i - 1):
        row = block[3][value(w)]
        handed += row[n]
        w = row[:n]
    return (yield from served(inner, handed + w))


def tree_steps(breaker, challenge):
    _, block, d, q, inner = breaker
    n = block[1]
    levels = []
    for j in range(d):
        levels += [(j, t) for t in range(2 ** d) if t < 2 ** j and t < q]
    j, t = levels[(yield ("draw", len(levels)))]
    order = []
    labels = {}

    def answer(x):
        if len(x) != d:
            return ""
        place = x[:j]
        if place not in order:
            if len(order) == t:
                both = challenge
            elif len(order) < t:
                both = yield from any_string(2 * n)
            else:
                both = block[3][(yield ("draw", 2 ** n))]
            labels[place + "0"] = both[:n]
            labels[place + "1"] = both[n:]
            order.append(place)
        label = labels[x[:j + 1]]
        for bit in x[j + 1:]:
            row = block[3][value(label)]
            label = row[n:] if bit == "1" else row[:n]
        return label

    return (yield from served(inner, "", answer))


def counter_steps(breaker, _):
    _, l, c, m, inner = breaker
    handed = ""
    for number in range(c):
        handed += yield ("ask", string_of(l, number))
    return (yield from served(inner, handed))


def cut_steps(breaker, challenge):
    _, b, inner = breaker
    return (yield from served(inner, challenge[:b]))


def marks_steps(breaker, _):
    _, l, m, inner = breaker
    asked = []

    def answer(string):
        asked.append(string)
        return (yield ("ask", string))

    said = yield from served(inner, "", answer)
    if len(said) == l + m and said[:l] not in asked:
        mark = yield ("ask", said[:l])
        if mark == said[l:]:
            return "1"
    return "0"


def as_b(said, b):
    if b == 1:
        return "1" if said == "1" else "0"
    return "0" if said == "1" else "1"


def secrets_steps(breaker, _):
    _, l, m, inner = breaker
    b = yield ("draw", 2)

    def answer(string):
        if len(string) != 2 * m:
            return ""
        r = yield from any_string(l)
        pad = yield ("ask", r)
        return r + differ(pad, string[b * m:(b + 1) * m])

    return as_b((yield from served(inner, "", answer)), b)


def once_steps(breaker, challenge):
    _, m, inner = breaker
    b = yield ("draw", 2)
    answered = []

    def answer(string):
        if len(string) != 2 * m or answered:
            return ""
        answered.append(string)
        return differ(challenge, string[b * m:(b + 1) * m])
        yield

    return as_b((yield from served(inner, "", answer)), b)


def opening_steps(breaker, challenge):
    _, r, inner = breaker
    b = yield ("draw", 2)
    return as_b((yield from served(inner, differ(challenge, r) if b else challenge)), b)


def next_steps(breaker, challenge):
    _, m, inner = breaker
    i = max(at for at in range(m) if challenge[at] == "1")
    w = yield from any_string(m - i)
    said = yield from served(inner, challenge[:i] + w)
    return w[0] if said == "1" else {"0": "1", "1": "0"}[w[0]]


def guess_steps(breaker, challenge):
    _, m, inner = breaker
    i = yield ("draw", m)
    said = yield from served(inner, challenge[:i] + "1" + (m - 1 - i) * "0")
    return "1" if ("1" if said == "1" else "0") == challenge[i] else "0"


def wins_onetime(block, l, shown, answered, said):
    n = block[1]
    if len(said) != l + l * n or said[:l] == answered:
        return False
    parts = [said[l + i * n:l + i * n + n] for i in range(l)]
    return all(block[3][value(part)] == shown[i, int(said[i])] for i, part in enumerate(parts))


def onetime_steps(breaker, challenge):
    _, block, l, inner = breaker
    n = block[1]
    v = yield ("draw", 2 * l)
    own = (v // 2, v % 2)
    strings, shown, answered = {}, {}, []
    for place in [(i, bit) for i in range(l) for bit in (0, 1)]:
        if place == own:
            shown[place] = challenge
        else:
            strings[place] = yield from any_string(n)
            shown[place] = block[3][value(strings[place])]

    def answer(message):
        if len(message) != l or answered:
            return ""
        if int(message[own[0]]) == own[1]:
            raise Stop
        answered.append(message)
        return "".join(strings[i, int(message[i])] for i in range(l))
        yield

    try:
        said = yield from served(inner, "".join(shown.values()), answer)
    except Stop:
        return ""
    if wins_onetime(block, l, shown, answered[0] if answered else None, said) and int(said[own[0]]) == own[1]:
        return said[l + own[0] * n:l + own[0] * n + n]
    return ""


def bit_steps(breaker, challenge):
    c = yield ("draw", 2)
    said = yield from served(breaker[1], challenge + str(c))
    return str(c) if said == "1" else str(1 - c)


def sums(n, guesses):
    """C(x) for all x, guesses being those for all r."""
    strings = [string_of(n, number) for number in range(2 ** n)]
    return [sum(1 if guess == common(x, r) else -1 for guess, r in zip(guesses, strings)) for x in strings]


def hard_steps(breaker, challenge):
    _, n, inner = breaker
    guesses = []
    for number in range(2 ** n):
        said = yield from served(inner, challenge + string_of(n, number))
        guesses.append(1 if said == "1" else 0)
    v = yield ("draw", 4 ** n)
    total = 0
    for x, worth in enumerate(sums(n, guesses)):
        total += worth ** 2
        if total > v:
            return string_of(n, x)


MADE = {
    "longer": longer_steps, "tree": tree_steps, "counter": counter_steps, "cut": cut_steps, "marks": marks_steps,
    "secrets": secrets_steps, "once": once_steps, "opening": opening_steps, "next": next_steps, "guess": guess_steps,
    "onetime": onetime_steps, "bit": bit_steps, "hard": hard_steps,
}


def steps_of(breaker, challenge):
    if breaker[0] in PLAIN:
        return plain_steps(breaker, challenge)
    return MADE[breaker[0]](breaker, challenge)


class Game:
    """A game without asks, the outcome of which is 1 for "1"."""

    def __init__(self, *parts):
        self.parts = parts
        self.asked = []

    def begin(self):
        return ""
        yield

    def answer(self, string):
        return ""
        yield

    def judge(self, said):
        return said == "1"
        yield

    def row(self, block, real):
        if real:
            seed = yield ("draw", 2 ** block[1])
            return block[3][seed]
        return (yield from any_string(block[2]))


class Generator(Game):
    def begin(self):
        return (yield from self.row(*self.parts))


class Function(Game):
    def begin(self):
        block, real = self.parts[:2]
        self.l, self.m = block[2], block[3]
        self.known = {}
        if real:
            key = yield ("draw", 2 ** block[1])
            self.known = {string_of(self.l, number): row for number, row in enumerate(block[4][key])}
        return ""

    def find(self, x):
        if x not in self.known:
            self.known[x] = yield from any_string(self.m)
        return self.known[x]

    def answer(self, string):
        if len(string) != self.l:
            return ""
        return (yield from self.find(string))


class Permutation(Game):
    def begin(self):
        self.left = sorted(string_of(self.parts[0], number) for number in range(2 ** self.parts[0]))
        self.known = {}
        return ""
        yield

    def answer(self, string):
        if len(string) != self.parts[0]:
            return ""
        if string not in self.known:
            self.known[string] = self.left.pop((yield ("draw", len(self.left))))
        return self.known[string]


class Swaps(Game):
    def begin(self):
        self.known = [{} for _ in range(self.parts[1])]
        return ""
        yield

    def answer(self, string):
        h = self.parts[0]
        if len(string) != 2 * h:
            return ""
        left, right = string[:h], string[h:]
        for function in self.known:
            if right not in function:
                function[right] = yield from any_string(h)
            left, right = right, differ(left, function[right])
        return left + right


class Marks(Function):
    def judge(self, said):
        x, mark = said[:self.l], said[self.l:]
        if len(said) != self.l + self.m or x in [string for string, _ in self.asked]:
            return False
        return (yield from self.find(x)) == mark


class Secrets(Function):
    def answer(self, string):
        if len(string) != 2 * self.m:
            return ""
        r = yield from any_string(self.l)
        start = self.parts[2] * self.m
        return r + differ((yield from self.find(r)), string[start:start + self.m])


class Once(Game):
    def begin(self):
        self.pad = yield from self.row(*self.parts[:2])
        return ""

    def answer(self, string):
        block, _, b = self.parts
        if len(string) != 2 * block[2] or any(len(old) == 2 * block[2] for old, _ in self.asked):
            return ""
        return differ(self.pad, string[b * block[2]:(b + 1) * block[2]])
        yield


class Opening(Game):
    def begin(self):
        block, r, real, b = self.parts
        row = yield from self.row(block, real)
        return differ(row, r) if b else row


class Next(Game):
    def begin(self):
        block, real = self.parts
        i = yield ("draw", block[2])
        row = yield from self.row(block, real)
        self.bit = row[i]
        return row[:i] + "1" + "0" * (block[2] - 1 - i)

    def judge(self, said):
        return self.bit == ("1" if said == "1" else "0")
        yield


class Inverse(Game):
    def begin(self):
        self.shown = yield from self.row(self.parts[0], True)
        return self.shown

    def judge(self, said):
        _, n, _, rows = self.parts[0]
        return len(said) == n and rows[value(said)] == self.shown
        yield


class Onetime(Game):
    def begin(self):
        block, l = self.parts
        self.strings, self.answered = {}, None
        for i in range(l):
            for bit in (0, 1):
                self.strings[i, bit] = yield from any_string(block[1])
        self.shown = {place: block[3][value(string)] for place, string in self.strings.items()}
        return "".join(self.shown.values())

    def answer(self, string):
        if len(string) != self.parts[1] or self.answered is not None:
            return ""
        self.answered = string
        return "".join(self.strings[i, int(bit)] for i, bit in enumerate(string))
        yield

    def judge(self, said):
        return wins_onetime(*self.parts, self.shown, self.answered, said)
        yield


class Hard(Game):
    def begin(self):
        block = self.parts[0]
        x = yield from any_string(block[1])
        r = yield from any_string(block[1])
        self.bit = common(x, r)
        return block[3][value(x)] + r

    def judge(self, said):
        return self.bit == (1 if said == "1" else 0)
        yield


GAMES = {
    "generator": Generator, "function": Function, "permutation": Permutation, "swaps": Swaps, "marks": Marks,
    "secrets": Secrets, "once": Once, "opening": Opening, "next": Next, "inverse": Inverse, "onetime": Onetime,
    "hard": Hard,
}


def game_steps(game, breaker):
    table = GAMES[game[0]](*game[1:])
    challenge = yield from table.begin()
    steps = steps_of(breaker, challenge)
    reply = None
    while True:
        try:
            what, told = steps.send(reply)
        except StopIteration as stop:
            said = stop.value
            break
        if what == "draw":
            reply = yield (what, told)
        else:
            reply = yield from table.answer(told)
            table.asked.append((told, reply))
    won = yield from table.judge(said)
    return (1 if won else 0), said, table.asked


def play(game, breaker, choices):
    """The outcome, what was said, the draws and the asks."""
    draws = []
    steps = game_steps(game, breaker)
    reply = None
    while True:
        try:
            _, many = steps.send(reply)
        except StopIteration as stop:
            outcome, said, asked = stop.value
            return outcome, said, draws, asked
        reply = choices[len(draws)] if len(draws) < len(choices) else 0
        assert 0 <= reply < many
        draws.append((reply, many))


def plays(game, breaker):
    """All plays, one for each way in which the draws can fall, each with its chance."""
    row = []
    while row is not None:
        outcome, said, draws, asked = play(game, breaker, row)
        weight = Fraction(1)
        for _, many in draws:
            weight /= many
        yield weight, outcome, said, draws, asked
        row = following([choice for choice, _ in draws], [many for _, many in draws])


def following(row, manies):
    """The next row of choices, or None behind the last one."""
    for at in reversed(range(len(row))):
        if row[at] + 1 < manies[at]:
            return row[:at] + [row[at] + 1]
    return None


def chance_and_ways(game, breaker):
    chance, ways = Fraction(0), 0
    for weight, outcome, _, _, _ in plays(game, breaker):
        chance += weight * outcome
        ways += 1
    return chance, ways
