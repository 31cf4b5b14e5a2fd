"""The promise in bold of 21: the advantage of the made breaker, times the number, is the gain, in exact fractions.

The advantages are found by the program, and also walked here by move from draw to draw and from answer to answer.
"""

import random
import unittest
from fractions import Fraction

from breakback.breakers import read_breaker
from breakback.chances import advantage
from breakback.errors import TooMany
from breakback.moves import move
from breakback.schemes import carried, gain
from tests.model_schemes import gain_and_ways, table_of
from tests.sample_attacks import SMALL, attacks
from tests.sample_breakers import ONE, ZERO, ask, look, say, some_plain, toss
from tests.samples import every_generator, function, generator, strings

BLOCK = ("block",)


def walked(breaker, challenge, answers):
    """The chance that a breaker says "1", run by itself; answers makes of its asks so far and one more all answers."""
    waiting = [([challenge], (), Fraction(1))]
    total = Fraction(0)
    while waiting:
        past, asked, weight = waiting.pop()
        what, told = move(breaker, past)
        if what == "say":
            total += weight * (told == "1")
        elif what == "draw":
            waiting += [(past + [choice], asked, weight / told) for choice in range(told)]
        else:
            found = answers(asked, told)
            waiting += [(past + [answer], (*asked, (told, answer)), weight / len(found)) for answer in found]
    return total


def no_answers(asked, string):
    return [""]


def answers_of(block, values):
    """All answers of the function with these values, or of any function, each as likely as the others."""
    _, _, l, m, _ = block

    def answers(asked, string):
        if len(string) != l:
            return [""]
        if values is not None:
            return [values[int(string, 2)]]
        return [answer for old, answer in asked if old == string][:1] or strings(m)

    return answers


def walked_advantage(block, breaker):
    if block[0] == "generator":
        real, fresh = block[3], strings(block[2])
        return (sum(walked(breaker, row, no_answers) for row in real) / len(real)
                - sum(walked(breaker, row, no_answers) for row in fresh) / len(fresh))
    real = sum(walked(breaker, "", answers_of(block, values)) for values in block[4]) / len(block[4])
    return real - walked(breaker, "", answers_of(block, None))


class Promise(unittest.TestCase):
    def setUp(self):
        self.held = self.unlike = self.left = 0

    def check(self, block, goal, breaker, most=2500):
        """Advantage times number is the gain; what has too many ways is left out."""
        made, number = carried(goal, block, breaker)
        try:
            expected = Fraction(*gain(goal, block, breaker, most=most))
            found = Fraction(*advantage(block, made, most=most))
        except TooMany:
            self.left += 1
            return None
        self.assertEqual(found * number, expected, (block, goal, breaker))
        self.held += 1
        self.unlike += expected != 0
        return made, found

    def most_were_tried(self, held, unlike):
        self.assertGreaterEqual(self.held, held)
        self.assertGreaterEqual(self.unlike, unlike)
        self.assertGreaterEqual(self.held, self.left)


class ByTheProgram(Promise):
    def test_no_layer(self):
        for block, goal, breaker in attacks(SMALL + tuple(every_generator(1, 2)[::3]), 0, drawn=6):
            self.check(block, goal, breaker)
        self.most_were_tried(700, 200)

    def test_one_layer(self):
        for block, goal, breaker in attacks(SMALL, 1, drawn=2):
            self.check(block, goal, breaker)
        self.most_were_tried(1500, 400)

    def test_two_layers(self):
        for block, goal, breaker in attacks(SMALL, 2, drawn=1, every=3, keen=slice(None, None, 2)):
            self.check(block, goal, breaker)
        self.most_were_tried(1000, 250)

    def test_three_layers(self):
        for block, goal, breaker in attacks(SMALL, 3, drawn=1, every=10, keen=slice(1, None, 3)):
            self.check(block, goal, breaker)
        self.most_were_tried(700, 100)

    def test_drawn_breakers(self):
        rng = random.Random(21)
        for block, goal, _ in attacks(SMALL, 1, sizes=(1, 2), drawn=1, keen=slice(0)):
            whole = table_of(goal[-1], block)
            lengths = (1,)
            if whole[0] == "function":
                lengths = (whole[2], whole[2], 2 * whole[3])
            elif goal[0] == "once":
                lengths = (2 * whole[2],)
            for _ in range(2):
                says = (sum(whole[2:4]) if goal[0] == "marks" else 1, 1)
                self.check(block, goal, some_plain(rng, 4, asks=lengths, says=says, last=5, ways=2), most=1500)
        self.most_were_tried(250, 35)

    def test_trees_that_are_asked_often(self):
        # More asks than there are places on the upper levels, and asks of one place again.
        for block in (generator(1, 2), generator(1, 2, "other"), ("generator", 1, 2, ("01", "10"))):
            for d in (1, 2, 3):
                scheme = ("tree", d, BLOCK)
                first, second, third = ("000"[:d], "110"[:d], "011"[:d])
                odd = look(0, look(1, look(2, ONE, ZERO), look(2, ZERO, ONE)), look(1, ONE, look(2, ONE, ZERO)))
                for breaker in (ask(first, ask(first, odd)), ask(first, ask(second, ask(third, odd))),
                                ask(second, ask(first, ask(second, odd))), ask(third, ("ask", (0,) * d, odd)),
                                ask(first + "0", ask(third, ask("", ask(first, look(0, ONE, ZERO)))))):
                    self.check(block, ("tell", scheme), breaker)
                    self.check(block, ("tell", ("tree", 1, ("cut", 2, ("counter", min(3, 2 ** d), scheme)))),
                               ask("0", ask("1", look(0, look(1, ONE, ZERO), look(1, ZERO, ONE)))))
                for said in ((*third, 0), (*third, "1"), (*second, "0")):
                    self.check(block, ("marks", scheme), ask(first, ask(second, ("say", said))))
        self.most_were_tried(100, 50)

    def test_breakers_of_texts(self):
        for text in ("(ask (0 1) (ask (1 1) (look 0 (say 0 0 b1) (toss (say 1 0 b0) (say 1 0 1)))))",
                     "(ask (1 0)(look 0 (ask (0 1) (say 0 0 b1)) (say 0 1 1)))", "(say 0 1 1)"):
            for block in SMALL[:3]:
                self.check(block, ("marks", ("tree", 2, BLOCK)), read_breaker(text))
                self.check(block, ("marks", ("tree", 2, ("longer", 1, BLOCK))), read_breaker(text))
        self.most_were_tried(15, 5)


class ByAWalk(Promise):
    def walk(self, block, goal, breaker, most=300):
        """The same, the gain counted and the advantage walked by the test."""
        tried = self.check(block, goal, breaker, most=most)
        if tried is not None:
            made, found = tried
            self.assertEqual(walked_advantage(block, made), found, (block, goal, breaker))
            self.assertEqual(found * carried(goal, block, breaker)[1], gain_and_ways(goal, block, breaker)[0])

    def test_no_layer(self):
        for block, goal, breaker in attacks(SMALL, 0, drawn=2, keen=slice(None, None, 2)):
            self.walk(block, goal, breaker)
        self.most_were_tried(180, 60)

    def test_one_layer(self):
        for block, goal, breaker in attacks(SMALL, 1, drawn=1, keen=slice(None, None, 3)):
            self.walk(block, goal, breaker, most=150)
        self.most_were_tried(600, 170)

    def test_two_and_three_layers(self):
        for layers, every in ((2, 4), (3, 13)):
            for block, goal, breaker in attacks(SMALL, layers, drawn=1, every=every, keen=slice(1, None, 4)):
                self.walk(block, goal, breaker, most=120)
        self.most_were_tried(1000, 180)

    def test_the_walk_of_a_plain_breaker(self):
        block = function(2, 1, 2)
        for breaker in (ask("0", say("1")), ask("0", ("say", (0,))), ask("1", ask("1", look(0, ONE, toss(ONE, ZERO)))),
                        ask("00", ask("1", look(1, ONE, ZERO)))):
            self.assertEqual(walked_advantage(block, breaker), Fraction(*advantage(block, breaker)))


if __name__ == "__main__":
    unittest.main()
