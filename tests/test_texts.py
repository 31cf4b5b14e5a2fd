"""The interface's read_breaker and write_breaker: the texts of plain breakers."""

import random
import re
import unittest

from breakback.breakers import check_breaker, read_breaker, write_breaker
from breakback.errors import BadBreaker, BadText, BreakError
from tests.sample_breakers import MADE, ONE, ZERO, ask, breakers, deep, look, over, say, toss
from tests.samples import same_kinds

# The grammar of texts, sign by sign: S is any number of spaces, P is parts with a space ahead of each.
RULES = {
    "T": ["SBS"], "S": ["", " S"], "B": ["(SKS)"], "K": ["sayP", "tossL", "look SNSBSB", "askS(SQS)SB"],
    "P": ["", " SWP"], "Q": ["", "WP"], "W": ["0", "1", "bN"], "L": ["SB", "SBL"], "N": ["0", "ZE"], "E": ["", "DE"],
    "Z": list("123456789"), "D": list("0123456789"),
}


def read_signs(text):
    """How many signs of the text some right text begins with, and whether all of it is one (after Earley)."""
    # An item is a rule's head, its body, how far it is read, and where it began; every rule leads to some text.
    sets = [{("T", body, 0, 0) for body in RULES["T"]}]
    for place in range(len(text) + 1):
        fill(sets, place)
        if place == len(text):
            break
        step = {(head, body, at + 1, start) for head, body, at, start in sets[place]
                if at < len(body) and body[at] == text[place] and body[at] not in RULES}
        if not step:
            return place, False
        sets.append(step)
    return len(text), any(head == "T" and at == len(body) for head, body, at, _ in sets[-1])


def fill(sets, place):
    """Add to the last set what follows from it without a further sign."""
    items = sets[place]
    waiting = list(items)
    while waiting:
        head, body, at, start = waiting.pop()
        if at == len(body):
            found = [(other, rest, spot + 1, begin) for other, rest, spot, begin in sets[start]
                     if spot < len(rest) and rest[spot] == head]
        elif body[at] in RULES:
            found = [(body[at], rest, 0, place) for rest in RULES[body[at]]]
            # What is awaited may have been found empty at this very place already.
            if any((body[at], rest, len(rest), place) in items for rest in RULES[body[at]]):
                found.append((head, body, at + 1, start))
        else:
            found = []
        for item in found:
            if item not in items:
                items.add(item)
                waiting.append(item)


def tell(text):
    """The breaker that a right text tells, by its words."""
    words = re.findall(r"[()]|[^() ]+", text)

    def one(at):
        kind = words[at + 1]
        at += 2
        if kind == "say":
            parts, at = some_parts(at)
            return (kind, parts), at
        if kind == "ask":
            parts, at = some_parts(at + 1)
            inner, at = one(at)
            return (kind, parts, inner), at + 1
        inside = []
        if kind == "look":
            inside.append(int(words[at]))
            at += 1
        while words[at] == "(":
            inner, at = one(at)
            inside.append(inner)
        return ((kind, *inside) if kind == "look" else (kind, tuple(inside))), at + 1

    def some_parts(at):
        stop = words.index(")", at)
        return tuple(int(word[1:]) if word[0] == "b" else word for word in words[at:stop]), stop + 1

    return one(0)[0]


def spread(text, rng):
    """The same text with more spaces, or with fewer where none is needed."""
    words = re.findall(r"[()]|[^() ]+", text)
    out = " " * rng.randrange(3)
    for at, word in enumerate(words):
        out += word
        needed = at + 1 < len(words) and word not in "()" and words[at + 1] not in "()"
        out += " " * rng.randrange(1 if needed else 0, 4)
    return out


WRITTEN = (
    (ONE, "(say 1)"), (("say", ()), "(say)"), (("say", ("0", "1", 5)), "(say 0 1 b5)"),
    (toss(ONE, ZERO), "(toss (say 1) (say 0))"), (toss(say("")), "(toss (say))"),
    (look(5, ONE, ("say", (0,))), "(look 5 (say 1) (say b0))"), (look(0, ONE, ZERO), "(look 0 (say 1) (say 0))"),
    (("ask", ("0", 2), ONE), "(ask (0 b2) (say 1))"), (("ask", (), ("say", (9999,))), "(ask () (say b9999))"),
    (("ask", (10, "1"), look(9999, toss(ONE), ask("0", ONE))),
     "(ask (b10 1) (look 9999 (toss (say 1)) (ask (0) (say 1))))"),
)


class RightTexts(unittest.TestCase):
    def read(self, text, breaker):
        found = read_breaker(text)
        self.assertEqual(found, breaker)
        self.assertTrue(same_kinds(found, breaker))

    def test_written_out(self):
        for breaker, text in WRITTEN:
            self.assertEqual(write_breaker(breaker), text)
            self.read(text, breaker)
        self.assertEqual(write_breaker(breaker=ONE), "(say 1)")
        self.assertEqual(read_breaker(text="(say 1)"), ONE)

    def test_written_and_read_back(self):
        for breaker in breakers("texts", 300, depth=9, asks=(0, 1, 2, 4), says=(0, 1, 2, 5), last=9999):
            text = write_breaker(breaker)
            self.assertNotRegex(text, r"  |\( | \)|^ | $|\)\(|[a-z0-9]\(")
            self.assertEqual(tell(text), breaker)
            self.read(text, breaker)

    def test_more_spaces_and_fewer(self):
        rng = random.Random(7)
        for breaker in breakers("spaces", 150, depth=6, asks=(0, 1, 2), says=(0, 1, 3), last=40):
            for _ in range(3):
                self.read(spread(write_breaker(breaker), rng), breaker)
        self.read("   ( say  )  ", ("say", ()))
        self.read("(toss(say 1)(say))", toss(ONE, ("say", ())))
        self.read("(look 0(say 1)(say 0))", look(0, ONE, ZERO))
        self.read("(ask(0 b2)(say 1))", ("ask", ("0", 2), ONE))
        self.read("(ask( )(say))", ("ask", (), ("say", ())))
        self.read(" ( ask  (  1 )  ( say  1 )  )", ask("1", ONE))

    def test_deep_ones(self):
        for kind in ("ask", "toss", "look"):
            for many in (2, 30, 59, 60):
                self.read(write_breaker(deep(many, kind)), deep(many, kind))

    def test_tosses_of_any_number(self):
        for many in (1, 2, 64, 65, 3000):
            breaker = ("toss", (ONE, ZERO) * (many // 2) + (ONE,) * (many % 2))
            text = "(toss " + " ".join(["(say 1)", "(say 0)"] * (many // 2) + ["(say 1)"] * (many % 2)) + ")"
            self.read(text, breaker)
            if many <= 64:
                self.assertEqual(write_breaker(breaker), text)
            else:
                with self.assertRaises(BadBreaker):
                    check_breaker(read_breaker(text))

    def test_numbers_beyond_the_bounds(self):
        for number in (10000, 123456789, 999999999):
            self.read(f"(say b{number})", ("say", (number,)))
            self.read(f"(ask (b{number} 0) (say 1))", ("ask", (number, "0"), ONE))
            self.read(f"(look {number} (say 1) (say 0))", look(number, ONE, ZERO))

    def test_a_text_read_again(self):
        texts = [text for _, text in WRITTEN]
        for text in texts:
            first = read_breaker(text)
            for other in texts + ["(say", "(toss (say 1) (say", "(ask (b"]:
                try:
                    read_breaker(other)
                except BadText:
                    pass
                self.assertTrue(same_kinds(read_breaker(text), first))

    def test_only_plain_breakers_are_written(self):
        for made in MADE:
            with self.assertRaises(BadBreaker):
                write_breaker(over(made, ONE))


class WrongTexts(unittest.TestCase):
    def place(self, text, place):
        with self.assertRaises(BadText) as caught:
            read_breaker(text)
        self.assertEqual(caught.exception.place, place, text)
        self.assertIs(type(caught.exception.place), int)
        self.assertIsInstance(caught.exception, BreakError)

    def same(self, text):
        """The program finds what the grammar tells."""
        place, is_right = read_signs(text)
        if is_right:
            self.assertEqual(read_breaker(text), tell(text))
        else:
            self.place(text, place)
        return is_right

    def test_written_out(self):
        for text, place in (
                ("", 0), ("   ", 3), ("say", 0), ("(", 1), ("( ", 2), ("()", 1), ("((", 1), (")", 0), ("(sa", 3),
                ("(sa)", 3), ("(sax 0)", 3), ("(says)", 4), ("(say0)", 4), ("(say 2)", 5), ("(say 01)", 6),
                ("(say b)", 6), ("(say b01)", 7), ("(say b1x)", 7), ("(say b12 b)", 10), ("(say b-1)", 6),
                ("(say 0", 6), ("(say 0 ", 7), ("(say 5)", 5), ("(say (0))", 5), ("(say 0) ", None),
                ("(say 0) x", 8), ("(say 0))", 7), ("(say 0)(say 0)", 7), ("(toss)", 5),
                ("(toss )", 6), ("(toss 0)", 6), ("(toss (say 0)", 13), ("(toss (say 0) 1)", 14), ("(tos (say 0))", 4),
                ("(look (say 0) (say 1))", 6),
                ("(look(say 0) (say 1))", 5), ("(look5 (say 0) (say 1))", 5), ("(look 05 (say 0) (say 1))", 7),
                ("(look b5 (say 0) (say 1))", 6), ("(look 5 (say 0))", 15), ("(look 5 (say 0) (say 1) (say 1))", 24),
                ("(look 5 6 (say 0) (say 1))", 8), ("(ask 0 (say 1))", 5), ("(ask (0))", 8), ("(ask (0) 1)", 9),
                ("(ask (0 2) (say 1))", 8), ("(ask (0) (say 1) (say 1))", 17), ("(ask () () (say 1))", 9),
                ("(ask (say 1))", 6), ("(longer 0)", 3), ("(list)", 2), ("(Say 1)", 1), ("(say\t1)", 4),
                ("(say\n1)", 4), ("\n(say 1)", 0), ("(say 1)\n", 7), ("(say b\u0661)", 6), ("(say b1\u0661)", 7),
                ("(look 1\u0661 (say) (say))", 7), ("(look +1 (say) (say))", 6), ("(look 1_0 (say) (say))", 7),
                ("(say 0,1)", 6), ("[say 1]", 0), ("(say '1')", 5), ("(t", 2), ("(l", 2), ("(a", 2), ("(x", 1)):
            if place is None:
                read_breaker(text)
            else:
                self.place(text, place)
            self.same(text)

    def test_cut_at_each_sign(self):
        for _, text in WRITTEN:
            for place in range(len(text)):
                self.place(text[:place], place)
                self.place(text[:place] + " " * 3, read_signs(text[:place] + " " * 3)[0])

    def test_a_sign_left_out_put_in_replaced_or_exchanged(self):
        right = 0
        for _, text in WRITTEN:
            for place in range(len(text)):
                right += self.same(text[:place] + text[place + 1:])
                right += self.same(text[:place] + text[place:place + 2][::-1] + text[place + 2:])
                for sign in "() 0159bsaytolk x-\n":
                    right += self.same(text[:place] + sign + text[place:])
                    right += self.same(text[:place] + sign + text[place + 1:])
        self.assertGreater(right, 500)

    def test_a_word_left_out_put_in_replaced_or_exchanged(self):
        further = ("(", ")", "0", "1", "b3", "b", "7", "10", "say", "toss", "look", "ask", "()", "(say 1)", "x")
        right = 0
        for _, text in WRITTEN:
            words = re.findall(r"[()]|[^() ]+", text)
            for at in range(len(words)):
                right += self.same(" ".join(words[:at] + words[at + 1:]))
                right += self.same(" ".join(words[:at] + words[at:at + 2][::-1] + words[at + 2:]))
                for word in further:
                    right += self.same(" ".join(words[:at] + [word] + words[at:]))
                    right += self.same("".join(words[:at]) + word + " ".join(words[at:]))
                    right += self.same(" ".join(words[:at] + [word] + words[at + 1:]))
        self.assertGreater(right, 100)

    def test_texts_bent_at_several_places(self):
        rng = random.Random(11)
        for breaker in breakers("bent", 60, depth=4, asks=(0, 1, 2), says=(0, 1, 2), last=30):
            text = write_breaker(breaker)[:150]
            for _ in range(8):
                signs = list(text)
                for _ in range(rng.randrange(1, 3)):
                    signs[rng.randrange(len(signs))] = rng.choice("() 01b9say")
                self.same("".join(signs))

    def test_at_the_end_of_deep_texts(self):
        for kind in ("ask", "toss", "look"):
            text = write_breaker(deep(60, kind))
            for cut in (1, 2, 3, 30, 60):
                self.place(text[:-cut], len(text) - cut)
                self.place(text[:-cut] + "x", len(text) - cut)
            self.place(text + ")", len(text))


if __name__ == "__main__":
    unittest.main()
