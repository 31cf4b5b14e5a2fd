"""Promises 2, 6, 7 and 22: which tuples are breakers, plain and made, and how often they ask."""

import copy
import unittest

from breakback.breakers import check_breaker, is_plain, most_asks, write_breaker
from breakback.chances import advantage, chance, ways
from breakback.errors import BadBlock, BadBreaker, BadGame, BadScheme, BreakError
from breakback.games import play
from breakback.moves import move
from tests.sample_breakers import (MADE, ONE, ZERO, G12, G23, G24, F111, ask, breakers, deep, f22, look, over, say,
                                   toss)
from tests.samples import bends, function, generator, no_blocks, same_kinds

# Each function of the interface that is handed a breaker, called with right values in the other places.
HANDED = (
    check_breaker, is_plain, most_asks, write_breaker,
    lambda breaker: move(breaker, ["0"]), lambda breaker: play(("permutation", 1), breaker, []),
    lambda breaker: chance(("generator", G12, True), breaker), lambda breaker: ways(("hard", G12), breaker),
    lambda breaker: advantage(G12, breaker), lambda breaker: chance(("permutation", 1), breaker, most=1),
)
NUMBERS = {"marks": (40, 40), "secrets": (40, 40), "once": (40,), "counter": (40, 256, 40), "cut": (40,),
           "next": (40,), "guess": (40,), "bit": (), "hard": (10,)}


def is_number(value, low, high):
    return type(value) is int and low <= value <= high


def is_block(value, kind):
    """Whether the value is the block that stands in the samples in this place."""
    known = [G12, G23, G24, f22] if kind == "generator" else [F111]
    return any(same_kinds(value, block) for block in known)


def are_parts(value):
    return type(value) is tuple and all(part in ("0", "1") if type(part) is str else is_number(part, 0, 9999)
                                        for part in value)


def right_plain(value, depth=1):
    """Whether the value is a plain breaker, told once more; too many within are not looked for."""
    if type(value) is not tuple or depth > 60 or not value:
        return False
    if value[0] == "say":
        return len(value) == 2 and are_parts(value[1])
    if value[0] == "toss":
        return (len(value) == 2 and type(value[1]) is tuple and 1 <= len(value[1]) <= 64
                and all(right_plain(inner, depth + 1) for inner in value[1]))
    if value[0] == "look":
        return (len(value) == 4 and is_number(value[1], 0, 9999)
                and right_plain(value[2], depth + 1) and right_plain(value[3], depth + 1))
    return value[0] == "ask" and len(value) == 3 and are_parts(value[1]) and right_plain(value[2], depth + 1)


def right(value, depth=0):
    """Whether the value is a breaker, told once more, where its blocks are among those of the samples."""
    if type(value) is not tuple or not value or depth > 20:
        return False
    kind, own, inner = value[0], value[1:-1], value[-1]
    if type(kind) is str and kind in NUMBERS:
        fits = (len(own) == len(NUMBERS[kind])
                and all(is_number(number, 1, high) for number, high in zip(own, NUMBERS[kind])))
    elif kind == "longer":
        fits = (len(own) == 2 and is_block(own[0], "generator") and own[0][2] == own[0][1] + 1
                and is_number(own[1], 1, 20))
    elif kind == "tree":
        fits = (len(own) == 3 and is_block(own[0], "generator") and own[0][2] == 2 * own[0][1]
                and is_number(own[1], 1, 8) and own[0][1] + own[1] <= 12 and is_number(own[2], 1, 1000))
    elif kind == "opening":
        fits = len(own) == 1 and type(own[0]) is str and 1 <= len(own[0]) <= 40 and not own[0].strip("01")
    elif kind == "onetime":
        fits = (len(own) == 2 and is_block(own[0], "generator") and is_number(own[1], 1, 4)
                and right_plain(inner))
    else:
        return right_plain(value)
    return fits and depth < 20 and right(inner, depth + 1)


def tossed(many):
    return ("toss", (ONE,) * many)


def with_within(many):
    """A plain breaker with so many breakers within, all of them reached by tosses among few."""
    full, rest = divmod(many, 51)
    parts = [tossed(50)] * full + [ONE] * rest
    assert len(parts) <= 64
    return ("toss", tuple(parts))


def in_one_another():
    """Made breakers of each kind over each kind, where onetime alone takes none."""
    inner = ask("01", look(3, ONE, toss(ZERO, say("0"))))
    for first in MADE:
        yield over(first, inner)
        for second in MADE:
            if second[0] != "onetime":
                yield over(second, over(first, inner))
                for third in MADE[:4]:
                    yield over(third, over(second, over(first, inner)))


class Checks(unittest.TestCase):
    def accepted(self, breaker, plain):
        before = copy.deepcopy(breaker)
        self.assertIsNone(check_breaker(breaker))
        self.assertIs(is_plain(breaker), plain)
        self.assertTrue(same_kinds(breaker, before))

    def refused(self, value):
        with self.assertRaises(BadBreaker) as caught:
            check_breaker(value)
        self.assertIsInstance(caught.exception, BreakError)
        self.assertNotIsInstance(caught.exception, (BadBlock, BadScheme))
        with self.assertRaises(BadBreaker):
            is_plain(value)
        with self.assertRaises(BadBreaker):
            most_asks(value)


class RightBreakers(Checks):
    def test_plain_ones_written_out(self):
        for breaker in (("say", ()), ("say", ("0", "1", 0, 9999)), ("toss", (("say", ()),)),
                        ("look", 0, ("say", ("0",)), ("say", ("1",))), ("ask", (), ("say", ())),
                        ("ask", ("0", 3), ("look", 9999, ("toss", (("say", (1,)), ("say", ("1",)))), ("say", ())))):
            self.accepted(breaker, True)

    def test_plain_ones_several_deep(self):
        for breaker in breakers("plain", 150, depth=7, asks=(1, 2), says=(0, 1, 2, 5), last=9999):
            self.assertTrue(right_plain(breaker))
            self.accepted(breaker, True)

    def test_made_ones_written_out(self):
        for made in MADE:
            self.accepted(over(made, ONE), False)

    def test_made_ones_in_one_another(self):
        for breaker in in_one_another():
            self.accepted(breaker, False)
            self.assertTrue(right(breaker))

    def test_by_name(self):
        self.assertIsNone(check_breaker(breaker=ONE))
        self.assertTrue(is_plain(breaker=ONE))
        self.assertEqual(most_asks(breaker=ONE), 0)


class OwnParts(Checks):
    def bounds(self, wrapped, low, high):
        """The number that is put into a made breaker has just these bounds."""
        for number in (low, low + 1, high - 1, high):
            if low <= number <= high:
                self.accepted(wrapped(number), False)
        for number in (low - 1, high + 1, -1, 0, high + 10 ** 30):
            if not low <= number <= high:
                self.refused(wrapped(number))
        for wrong in (True, False, None, str(low), (low,), [low], "", ()):
            self.refused(wrapped(wrong))

    def test_numbers(self):
        for kind, highs in NUMBERS.items():
            for at, high in enumerate(highs):
                self.bounds(lambda number: (kind, *[1] * at, number, *[1] * (len(highs) - at - 1), ONE), 1, high)

    def test_parts_more_or_less(self):
        for made in MADE:
            for breaker in (made, (*made, 1, ONE), (*made, ONE, ONE), (made[0], ONE), (*made[:-1], ONE), made[:1],
                            (*made, ()), [*made, ONE], (list(made), ONE), (made, ONE)):
                if breaker != ("bit", ONE):
                    self.refused(breaker)

    def test_counter_needs_no_more_than_its_bounds(self):
        self.accepted(("counter", 1, 256, 40, ONE), False)

    def test_longer(self):
        self.bounds(lambda k: ("longer", G23, k, ONE), 1, 20)
        self.bounds(lambda k: ("longer", generator(10, 11), k, ONE), 1, 20)
        self.bounds(lambda k: ("longer", G12, k, ONE), 1, 20)
        for n in range(1, 6):
            for m in range(1, 9):
                breaker = ("longer", generator(n, m), 1, ONE)
                self.accepted(breaker, False) if m == n + 1 else self.refused(breaker)

    def test_tree(self):
        for n in range(1, 9):
            self.bounds(lambda d: ("tree", generator(n, 2 * n), d, 1, ONE), 1, min(8, 12 - n))
        self.bounds(lambda q: ("tree", G24, 1, q, ONE), 1, 1000)
        for n, m in ((1, 1), (1, 3), (2, 3), (2, 5), (3, 4), (9, 18), (10, 20)):
            self.refused(("tree", generator(n, m), 1, 1, ONE))

    def test_onetime(self):
        self.bounds(lambda l: ("onetime", f22, l, ONE), 1, 4)
        for block in (G12, generator(10, 40), generator(3, 1)):
            self.accepted(("onetime", block, 4, ONE), False)
        for made in MADE:
            self.refused(("onetime", f22, 2, over(made, ONE)))

    def test_opening(self):
        for r in ("0", "1", "01" * 20, "1" * 40):
            self.accepted(("opening", r, ONE), False)
        for r in ("", "1" * 41, "2", "0 ", " 0", "0b1", "0\n", "O", 0, 1, True, None, ("0",), ["0"], ()):
            self.refused(("opening", r, ONE))

    def test_blocks(self):
        wrong = [F111, function(2, 3, 3), ("generator", 2, 3, list(G23[3])), ("generator", 2, 4, G23[3]), None, "G", ()]
        for block in wrong + list(no_blocks())[::61]:
            self.refused(("longer", block, 1, ONE))
            self.refused(("tree", block, 1, 1, ONE))
            self.refused(("onetime", block, 1, ONE))


class Bounds(Checks):
    def test_depth_of_plain_ones(self):
        for kind in ("ask", "toss", "look"):
            for many in (1, 2, 59, 60):
                self.accepted(deep(many, kind), True)
            for many in (61, 62, 300, 100000):
                self.refused(deep(many, kind))

    def test_depth_on_another_way_than_the_first(self):
        for many, asked in ((60, self.accepted), (61, lambda breaker, _: self.refused(breaker))):
            asked(toss(ONE, deep(many - 1), ONE), True)
            asked(look(5, ONE, deep(many - 1)), True)
            asked(look(5, deep(many - 1), ONE), True)

    def test_breakers_within(self):
        for many in (64, 1999, 2000):
            self.accepted(with_within(many), True)
        for many in (2001, 2002, 2500):
            self.refused(with_within(many))
        self.accepted(ask("0", with_within(1999)), True)
        self.refused(ask("0", with_within(2000)))
        self.refused(look(0, with_within(1000), with_within(999)))
        self.accepted(look(0, with_within(1000), with_within(998)), True)

    def test_each_counts_as_often_as_it_stands(self):
        breaker = ONE
        for _ in range(59):
            breaker = toss(*[breaker] * 64)
        self.refused(breaker)
        breaker = ONE
        for _ in range(9):
            breaker = look(1, breaker, breaker)
        self.accepted(breaker, True)
        # It is 1023 breakers now, the outermost one included.
        self.accepted(look(1, breaker, with_within(976)), True)
        self.refused(look(1, breaker, with_within(977)))
        self.refused(look(1, breaker, breaker))

    def test_breakers_to_toss_among(self):
        for many in (1, 2, 63, 64):
            self.accepted(tossed(many), True)
        for many in (0, 65, 66, 200):
            self.refused(tossed(many))
            self.refused(ask("1", tossed(many)))

    def test_numbers_of_bits(self):
        for number in (0, 1, 9998, 9999):
            self.accepted(("say", (number,)), True)
            self.accepted(("ask", ("0", number), ONE), True)
            self.accepted(look(number, ONE, ZERO), True)
        for number in (-1, 10000, 10 ** 30, -10 ** 30, True, False, None, "5", "b5", (5,), [5]):
            self.refused(("say", (number,)))
            self.refused(("ask", ("0", number), ONE))
            self.refused(look(number, ONE, ZERO))

    def test_signs(self):
        for part in ("", "2", "00", "01", " 0", "b0", "b", "O", "\u0661", (), [], ("0",)):
            self.refused(("say", (part,)))
            self.refused(("ask", ("1", part, "1"), ONE))

    def test_the_same_bounds_below_made_ones(self):
        for made in MADE:
            for breaker in (deep(60), with_within(2000), tossed(64), ("say", (9999,))):
                self.accepted(over(made, breaker), False)
            for breaker in (deep(61), with_within(2001), tossed(65), ("say", (10000,)), tossed(0), deep(100000)):
                self.refused(over(made, breaker))

    def test_depth_of_made_ones(self):
        for inner in (ONE, deep(60), with_within(2000), over(MADE[8], ONE)):
            start = 1 if inner[0] == "onetime" else 0
            for made in MADE:
                if made[0] == "onetime":
                    continue
                breaker = inner
                for many in range(start + 1, 24):
                    breaker = over(made, breaker)
                    self.accepted(breaker, False) if many <= 20 else self.refused(breaker)
        for _ in range(100000):
            breaker = ("bit", breaker)
        self.refused(breaker)

    def test_a_made_one_within_a_plain_one(self):
        for made in MADE:
            inner = over(made, ONE)
            for breaker in (toss(inner), toss(ONE, inner), look(0, inner, ONE), look(0, ONE, inner), ask("0", inner),
                            ask("0", toss(ONE, look(2, ONE, inner)))):
                self.refused(breaker)
                self.refused(over(made, breaker))


class BentAtOnePlace(Checks):
    def bent(self, breaker):
        self.assertTrue(right(breaker))
        kept = 0
        for number, value in enumerate(bends(breaker)):
            with self.subTest(breaker=breaker, number=number):
                if right(value):
                    kept += 1
                    self.accepted(value, value[0] in ("say", "toss", "look", "ask"))
                else:
                    self.refused(value)
        return kept

    def test_plain_ones(self):
        kept = 0
        for breaker in (("say", ("0", 7)), toss(ONE, ZERO, ONE), look(3, ONE, ("say", (0,))), ask((1, "1"), ZERO),
                        ask("1", look(1, toss(ONE, ("say", (9999, "0"))), ask((0,), ONE))), say("")):
            kept += self.bent(breaker)
        self.assertGreater(kept, 20)

    def test_made_ones(self):
        inner = look(0, ("say", ("1", 2)), ONE)
        for made in MADE:
            self.bent(over(made, inner))

    def test_made_ones_in_made_ones(self):
        inner = toss(("say", (0,)))
        for made in MADE:
            self.bent(("bit", over(made, inner)))
            self.bent(("marks", 2, 40, ("counter", 1, 256, 3, over(made, inner))))


class NoBreakers(Checks):
    def test_values_of_any_kind(self):
        for number, value in enumerate(no_blocks()):
            with self.subTest(number=number):
                self.refused(value)

    def test_names(self):
        for name in ("", "Say", "says", "say ", "sa", 0, None, True, (), [], ("say",), ["say"]):
            self.refused((name, ("0",)))
            self.refused((name, 1, ONE))
            self.refused((name, ("0",), ONE))
            self.refused((name, 0, ONE, ONE))
        self.refused("say")
        self.refused(("say",))
        self.refused(())
        self.refused("(say 1)")

    def test_values_nested_very_deep(self):
        for around in (lambda value: (value,), lambda value: [value], lambda value: ("bit", value),
                       lambda value: ("ask", (), value), lambda value: ("toss", (value,)), lambda value: (value, 1)):
            value = ()
            for _ in range(100000):
                value = around(value)
            self.refused(value)
            for breaker in (("say", value), ("say", (value,)), ("toss", value), look(value, ONE, ONE),
                            look(1, value, ONE), look(1, ONE, value), ("ask", value, ONE), ("ask", (), value),
                            (value, ONE), ("longer", value, 1, ONE), ("longer", G23, value, ONE), ("bit", value),
                            ("opening", value, ONE), ("cut", value, ONE)):
                self.refused(breaker)

    def test_each_function_that_is_handed_a_breaker_looks_at_it_first(self):
        values = [bent for breaker in (ONE, ask("0", ONE), ("bit", ONE)) for bent in bends(breaker) if not right(bent)]
        for asked in HANDED:
            for value in values + list(no_blocks())[::97] + [deep(61), tossed(65)]:
                with self.assertRaises(BadBreaker):
                    asked(value)

    def test_a_wrong_game_or_block_comes_first(self):
        for game in (("permutation", 9), ("generator", G12, 1), None, ["hard", G12]):
            for breaker in (None, ("say", ("2",)), deep(61)):
                for asked in (lambda: play(game, breaker, []), lambda: play(game, breaker, [-1]),
                              lambda: chance(game, breaker), lambda: ways(game, breaker)):
                    with self.assertRaises(BadGame):
                        asked()
                with self.assertRaises(BadBlock):
                    advantage(game, breaker)
        with self.assertRaises(BadBreaker):
            play(("permutation", 1), None, [-1])
        with self.assertRaises(BadBreaker):
            chance(("generator", G12, True), None, most=1)


class MostAsks(unittest.TestCase):
    def test_plain_ones_written_out(self):
        for breaker, many in (
                (ONE, 0), (("say", ()), 0), (ask("0", ONE), 1), (ask("", ask("11", ONE)), 2), (toss(ONE, ZERO), 0),
                (toss(ONE, ask("0", ONE), ask("0", ask("0", ONE)), ONE), 2),
                (look(0, ask("0", ONE), ONE), 1), (look(0, ONE, ask("0", ask("1", ask("0", ZERO)))), 3),
                (ask("0", toss(look(1, ask("1", ONE), ONE), ONE)), 2), (deep(60), 59), (deep(60, "toss"), 0)):
            self.assertEqual(most_asks(breaker), many)
            self.assertIs(type(most_asks(breaker)), int)

    def test_ways_that_the_bits_cannot_fall(self):
        self.assertEqual(most_asks(look(2, look(2, ONE, ask("0", ask("0", ONE))), ask("0", ONE))), 2)

    def told(self, breaker):
        kinds = {"say": lambda: 0, "toss": lambda: max(map(self.told, breaker[1])),
                 "look": lambda: max(self.told(breaker[2]), self.told(breaker[3])),
                 "ask": lambda: 1 + self.told(breaker[2]), "marks": lambda: 1 + self.told(breaker[-1]),
                 "secrets": lambda: self.told(breaker[-1]), "counter": lambda: breaker[2]}
        return kinds[breaker[0]]() if breaker[0] in kinds else 0

    def test_many_plain_ones(self):
        for breaker in breakers("asks", 200, depth=8, asks=(0, 1, 2)):
            self.assertEqual(most_asks(breaker), self.told(breaker))

    def test_made_ones_over_plain_ones(self):
        three = ask("0", ask("0", ask("0", ONE)))
        expected = {"marks": 4, "secrets": 3, "counter": 3}
        for made in MADE:
            self.assertEqual(most_asks(over(made, three)), expected.get(made[0], 0))
        self.assertEqual(most_asks(("counter", 8, 256, 1, three)), 256)
        self.assertEqual(most_asks(("counter", 8, 1, 1, three)), 1)

    def test_made_ones_in_one_another(self):
        for breaker in in_one_another():
            self.assertEqual(most_asks(breaker), self.told(breaker), breaker)
        breaker = deep(60)
        for _ in range(10):
            breaker = ("marks", 1, 1, ("secrets", 1, 1, breaker))
        self.assertEqual(most_asks(breaker), 69)


if __name__ == "__main__":
    unittest.main()
