"""Promises 6 and 13 to 18, and the interface's move: what a breaker does next when it is run by itself."""

import copy
import random
import unittest

from breakback.moves import move
from tests import model
from tests.sample_breakers import (MADE, ONE, ZERO, G23, G24, ask, breakers, deep, f22, look, over, say, some_plain,
                                   toss)
from tests.samples import generator, scrambled


def lengths(breaker):
    """The length of the challenge of a made breaker and that of the answers to its asks, in the games it is for."""
    kind = breaker[0]
    if kind in ("longer", "tree", "onetime"):
        return breaker[1][2], 0
    if kind in ("once", "next", "guess"):
        return breaker[1], 0
    if kind in ("marks", "secrets", "counter"):
        return 0, breaker[-2]
    return {"opening": 3, "cut": 4, "bit": 4, "hard": 2}[kind], 0


class Plain(unittest.TestCase):
    def test_say(self):
        self.assertEqual(move(("say", ()), [""]), ("say", ""))
        self.assertEqual(move(("say", ("0", "1", "1")), ["000"]), ("say", "011"))
        self.assertEqual(move(("say", (0, 1, 2, "1", 2, 0)), ["011"]), ("say", "011110"))

    def test_a_bit_that_is_not_there_is_0(self):
        self.assertEqual(move(("say", (0, 1, 2, 3, 9999)), ["111"]), ("say", "11100"))
        self.assertEqual(move(("say", (0,)), [""]), ("say", "0"))
        self.assertEqual(move(look(3, ZERO, ONE), ["111"]), ("say", "0"))

    def test_look(self):
        self.assertEqual(move(look(0, say("00"), say("11")), ["01"]), ("say", "00"))
        self.assertEqual(move(look(1, say("00"), say("11")), ["01"]), ("say", "11"))
        self.assertEqual(move(look(0, look(1, say("00"), say("01")), look(1, say("10"), say("11"))), ["10"]),
                         ("say", "10"))

    def test_toss(self):
        breaker = toss(ONE, toss(ZERO), say("11"))
        self.assertEqual(move(breaker, ["0"]), ("draw", 3))
        self.assertEqual(move(breaker, ["0", 0]), ("say", "1"))
        self.assertEqual(move(breaker, ["0", 1]), ("draw", 1))
        self.assertEqual(move(breaker, ["0", 1, 0]), ("say", "0"))
        self.assertEqual(move(breaker, ["0", 2]), ("say", "11"))
        self.assertEqual(move(toss(*[ONE] * 64), [""]), ("draw", 64))

    def test_ask(self):
        breaker = ask("01", ("ask", (1, 0, 2), ("say", (0, 1, 2, 3, 4, 5))))
        self.assertEqual(move(breaker, ["1"]), ("ask", "01"))
        self.assertEqual(move(breaker, ["1", "01"]), ("ask", "011"))
        self.assertEqual(move(breaker, ["1", "01", "111"]), ("say", "101111"))
        self.assertEqual(move(breaker, ["1", "", "0"]), ("say", "100000"))
        self.assertEqual(move(("ask", (), ONE), [""]), ("ask", ""))

    def test_a_toss_is_not_handed_anything(self):
        self.assertEqual(move(toss(("say", (0, 1)), ("say", (0, 1))), ["0", 1]), ("say", "00"))

    def test_lists_tuples_and_names(self):
        breaker = toss(ask("1", ("say", (0, 1))), ONE)
        for past in (["1", 0, "1"], ("1", 0, "1")):
            before = copy.deepcopy(past)
            self.assertEqual(move(breaker, past), ("say", "11"))
            self.assertEqual(past, before)
        self.assertEqual(move(past=["1"], breaker=breaker), ("draw", 2))

    def test_very_deep_ones(self):
        self.assertEqual(move(deep(60), [""] + ["1"] * 58), ("ask", "11"))
        self.assertEqual(move(deep(60), [""] + ["1"] * 59), ("say", "1"))
        self.assertEqual(move(deep(60, "toss"), [""] + [0] * 59), ("say", "1"))


class Made(unittest.TestCase):
    def test_longer(self):
        block = ("generator", 2, 3, ("011", "100", "111", "010"))
        breaker = ("longer", block, 3, ("say", (0, 1, 2, 3, 4)))
        self.assertEqual(move(breaker, ["001"]), ("draw", 3))
        # Place 0: one draw among 1, then the bit 1, and from state 00 are put out 1, 0 and the state 10.
        self.assertEqual(move(breaker, ["001", 0]), ("draw", 1))
        self.assertEqual(move(breaker, ["001", 0, 0]), ("say", "11010"))
        self.assertEqual(move(breaker, ["001", 1]), ("draw", 2))
        self.assertEqual(move(breaker, ["001", 1, 1]), ("say", "11101"))
        self.assertEqual(move(breaker, ["001", 2]), ("draw", 4))
        self.assertEqual(move(breaker, ["001", 2, 2]), ("say", "10100"))

    def test_tree(self):
        block = ("generator", 1, 2, ("10", "01"))
        breaker = ("tree", block, 2, 2, ask("00", ask("10", ask("01", ("say", (0, 1, 2))))))
        self.assertEqual(move(breaker, ["11"]), ("draw", 3))
        # Level 0: the halves of the challenge are the labels 1 and 1, both of which lead to 0 and 1.
        self.assertEqual(move(breaker, ["11", 0]), ("say", "001"))
        # Level 1, place 0 first: 1 and 1 below it; below the second place a drawn seed's row.
        self.assertEqual(move(breaker, ["11", 1]), ("draw", 2))
        self.assertEqual(move(breaker, ["11", 1, 0]), ("say", "111"))
        self.assertEqual(move(breaker, ["11", 1, 1]), ("say", "101"))
        # Level 1, the second place: first any labels are drawn, and they stay.
        self.assertEqual(move(breaker, ["11", 2]), ("draw", 4))
        self.assertEqual(move(breaker, ["11", 2, 1]), ("say", "011"))
        self.assertEqual(move(breaker, ["11", 2, 2]), ("say", "110"))

    def test_counter(self):
        breaker = ("counter", 3, 2, 2, ask("0", ("say", (0, 1, 2, 3, 4))))
        self.assertEqual(move(breaker, [""]), ("ask", "000"))
        self.assertEqual(move(breaker, ["", "10"]), ("ask", "001"))
        self.assertEqual(move(breaker, ["", "10", "01"]), ("say", "10010"))

    def test_cut(self):
        self.assertEqual(move(("cut", 2, ("say", (0, 1, 2))), ["111"]), ("say", "110"))
        self.assertEqual(move(("cut", 3, ("say", (0, 1, 2))), ["111"]), ("say", "111"))

    def test_marks(self):
        breaker = ("marks", 2, 1, ask("01", ask("1", ("say", ("1", 0, 0)))))
        self.assertEqual(move(breaker, [""]), ("ask", "01"))
        self.assertEqual(move(breaker, ["", "1"]), ("ask", "1"))
        self.assertEqual(move(breaker, ["", "1", ""]), ("ask", "11"))
        self.assertEqual(move(breaker, ["", "1", "", "1"]), ("say", "1"))
        self.assertEqual(move(breaker, ["", "1", "", "0"]), ("say", "0"))
        self.assertEqual(move(("marks", 2, 1, ask("01", say("011"))), ["", "1"]), ("say", "0"))
        self.assertEqual(move(("marks", 2, 1, ask("01", say("01"))), ["", "1"]), ("say", "0"))
        self.assertEqual(move(("marks", 2, 1, ask("01", say("1111"))), ["", "1"]), ("say", "0"))

    def test_secrets(self):
        breaker = ("secrets", 1, 2, ask("0110", ("say", (2,))))
        self.assertEqual(move(breaker, [""]), ("draw", 2))
        self.assertEqual(move(breaker, ["", 1]), ("draw", 2))
        self.assertEqual(move(breaker, ["", 1, 1]), ("ask", "1"))
        self.assertEqual(move(breaker, ["", 1, 1, "11"]), ("say", "1"))
        self.assertEqual(move(breaker, ["", 1, 1, "00"]), ("say", "0"))
        self.assertEqual(move(breaker, ["", 0, 1, "11"]), ("say", "1"))
        self.assertEqual(move(("secrets", 1, 2, ask("011", ("say", (0,)))), ["", 0]), ("say", "1"))

    def test_once(self):
        breaker = ("once", 2, ask("1", ask("0110", ask("0110", ("say", (1,))))))
        self.assertEqual(move(breaker, ["11"]), ("draw", 2))
        self.assertEqual(move(breaker, ["11", 1]), ("say", "1"))
        self.assertEqual(move(breaker, ["11", 0]), ("say", "1"))
        self.assertEqual(move(breaker, ["10", 0]), ("say", "0"))

    def test_once_answers_once(self):
        # Of two answers, two bits each, the second is empty: bits 2 and 3 are not there.
        for at, said in ((0, "0"), (1, "1"), (2, "0"), (3, "0")):
            breaker = ("once", 2, ask("1010", ask("1010", ("say", (at,)))))
            self.assertEqual(move(breaker, ["11", 1]), ("say", said))

    def test_opening(self):
        breaker = ("opening", "01", ("say", (1,)))
        self.assertEqual(move(breaker, ["11"]), ("draw", 2))
        self.assertEqual(move(breaker, ["11", 1]), ("say", "0"))
        self.assertEqual(move(breaker, ["10", 1]), ("say", "1"))
        self.assertEqual(move(breaker, ["11", 0]), ("say", "0"))

    def test_next(self):
        breaker = ("next", 3, ("say", (2,)))
        self.assertEqual(move(breaker, ["110"]), ("draw", 4))
        self.assertEqual(move(breaker, ["110", 0]), ("say", "1"))
        self.assertEqual(move(breaker, ["110", 1]), ("say", "0"))
        self.assertEqual(move(breaker, ["110", 3]), ("say", "1"))
        self.assertEqual(move(breaker, ["100"]), ("draw", 8))
        self.assertEqual(move(breaker, ["001"]), ("draw", 2))

    def test_guess(self):
        breaker = ("guess", 3, ("say", (1,)))
        self.assertEqual(move(breaker, ["101"]), ("draw", 3))
        self.assertEqual(move(breaker, ["101", 0]), ("say", "0"))
        self.assertEqual(move(breaker, ["101", 1]), ("say", "0"))
        self.assertEqual(move(breaker, ["101", 2]), ("say", "0"))
        self.assertEqual(move(breaker, ["111", 2]), ("say", "1"))

    def test_onetime(self):
        block = ("generator", 1, 2, ("01", "10"))
        breaker = ("onetime", block, 1, look(0, ask("0", ("say", ("1", 4))), say("")))
        self.assertEqual(move(breaker, ["01"]), ("draw", 2))
        self.assertEqual(move(breaker, ["01", 0]), ("draw", 2))
        # The place (0, 0) would be asked for, so that it ends at once.
        self.assertEqual(move(breaker, ["01", 0, 1]), ("say", ""))
        self.assertEqual(move(breaker, ["01", 1, 0]), ("say", "0"))
        self.assertEqual(move(breaker, ["10", 1, 0]), ("say", ""))
        breaker = ("onetime", block, 1, ("say", ("1", "1")))
        self.assertEqual(move(breaker, ["10", 1, 0]), ("say", "1"))
        self.assertEqual(move(breaker, ["10", 0, 1]), ("say", ""))

    def test_onetime_answers_once(self):
        block = ("generator", 1, 1, ("0", "1"))
        # The place (0, 0) is the challenge's: asked for behind another message, it is not answered.
        for second, at, said in (("0", 2, "1"), ("0", 3, ""), ("1", 2, "1"), ("1", 3, "")):
            breaker = ("onetime", block, 1, ask("1", ask(second, ("say", ("0", at)))))
            self.assertEqual(move(breaker, ["1", 0, 1]), ("say", said))
        breaker = ("onetime", block, 1, ask("11", ask("", ask("0", ONE))))
        self.assertEqual(move(breaker, ["1", 0, 1]), ("say", ""))

    def test_bit(self):
        breaker = ("bit", ("say", (2,)))
        self.assertEqual(move(breaker, ["00"]), ("draw", 2))
        self.assertEqual(move(breaker, ["00", 1]), ("say", "1"))
        self.assertEqual(move(breaker, ["00", 0]), ("say", "1"))
        self.assertEqual(move(("bit", ONE), ["00", 0]), ("say", "0"))

    def test_hard(self):
        # The guess at r is its second bit, which is the parity of x = 01 with every r.
        breaker = ("hard", 2, ("say", (4,)))
        self.assertEqual(move(breaker, ["111"]), ("draw", 16))
        for v in range(16):
            self.assertEqual(move(breaker, ["111", v]), ("say", "01"))
        # The guess is 1 at r = 00 alone: C is 2, -2, -2, -2 for x = 00, 01, 10, 11.
        breaker = ("hard", 2, look(3, look(4, ONE, ZERO), ZERO))
        self.assertEqual([move(breaker, ["111", v])[1] for v in range(16)], ["00"] * 4 + ["01"] * 4 + ["10"] * 4
                         + ["11"] * 4)

    def test_hard_draws_anew_for_each_string(self):
        breaker = ("hard", 1, toss(ONE, ZERO, ZERO))
        self.assertEqual(move(breaker, ["0"]), ("draw", 3))
        self.assertEqual(move(breaker, ["0", 1]), ("draw", 3))
        self.assertEqual(move(breaker, ["0", 1, 0]), ("draw", 4))
        self.assertEqual(move(breaker, ["0", 1, 0, 3]), ("say", "1"))

    def test_ten_bits(self):
        # A guess by the last bit of r is right for x = 0..01.
        breaker = ("hard", 10, ("say", (13,)))
        self.assertEqual(move(breaker, ["0110"]), ("draw", 4 ** 10))
        for v in (0, 5, 4 ** 10 - 1):
            self.assertEqual(move(breaker, ["0110", v]), ("say", "0" * 9 + "1"))

    def test_many_asks_without_a_draw(self):
        breaker = ("marks", 8, 1, ("counter", 8, 256, 1, ("say", (255,))))
        past = [""] + ["1"] * 255
        self.assertEqual(move(breaker, past), ("ask", "1" * 8))
        self.assertEqual(move(breaker, past + ["1"]), ("say", "0"))


class AgainstTheModel(unittest.TestCase):
    """Each move of a breaker is the one that the model makes, along rows of choices and answers."""

    def follow(self, breaker, rng, many=12):
        challenge, answers = lengths(breaker) if breaker[0] in model.MADE else (3, 2)
        handed = scrambled(challenge, rng.random())
        if breaker[0] == "next" and "1" not in handed:
            handed = handed[:-1] + "1"
        past = [handed]
        steps = model.steps_of(breaker, handed)
        reply = None
        for _ in range(many):
            try:
                expected = steps.send(reply)
            except StopIteration as stop:
                self.assertEqual(move(breaker, past), ("say", stop.value), (breaker, past))
                return
            self.assertEqual(move(breaker, tuple(past)), expected, (breaker, past))
            what, told = expected
            reply = rng.randrange(told) if what == "draw" else scrambled(answers, rng.random())
            past.append(reply)

    def test_plain_ones(self):
        rng = random.Random(3)
        for breaker in breakers("moves", 200, depth=7, asks=(0, 1, 2, 3), says=(0, 1, 2, 3), last=12):
            self.follow(breaker, rng)

    def test_made_ones_over_plain_ones(self):
        rng = random.Random(4)
        for made in MADE:
            for _ in range(60):
                inner = some_plain(rng, 5, asks=(1, 2, 2, 3, 4), says=(1, 1, 1, 3, 6), last=9)
                self.follow(over(made, inner), rng, 30)

    def test_asks_that_a_made_one_has_no_answer_for(self):
        rng = random.Random(5)
        inner = ask("10101", ask("", look(0, ("say", (0, 1)), ("say", (1,)))))
        for made in MADE:
            for _ in range(10):
                self.follow(over(made, inner), rng, 30)

    def test_made_ones_in_made_ones(self):
        rng = random.Random(6)
        block = generator(2, 2)
        for _ in range(60):
            inner = some_plain(rng, 4, asks=(2, 4), says=(1,), last=9)
            for breaker in (
                    ("longer", G23, 2, ("once", 4, inner)), ("longer", G23, 3, ("opening", "01101", inner)),
                    ("longer", G23, 2, ("cut", 3, ("guess", 3, inner))), ("tree", G24, 2, 2, ("marks", 2, 2, inner)),
                    ("tree", G24, 2, 1, ("secrets", 2, 2, inner)), ("tree", G24, 2, 2, ("counter", 2, 3, 2, inner)),
                    ("counter", 2, 2, 2, ("cut", 3, ("longer", G23, 2, inner))),
                    ("hard", 2, ("bit", ("opening", "10110", inner))), ("next", 3, ("longer", G23, 2, inner)),
                    ("hard", 2, ("bit", ("cut", 4, ("tree", G24, 2, 2, inner)))), ("onetime", f22, 2, inner),
                    ("guess", 3, ("next", 3, inner)), ("once", 3, inner), ("bit", ("cut", 2, inner)),
                    ("longer", block[:2] + (3, tuple(row + "1" for row in block[3])), 4, ("guess", 6, inner))):
                self.follow(breaker, rng, 20)


if __name__ == "__main__":
    unittest.main()
