"""Promises 2, 9 to 12: which tuples are games."""

import copy
import unittest

from breakback.chances import chance, ways
from breakback.errors import BadBlock, BadChoice, BadGame, BreakError
from breakback.games import check_game, play
from tests.sample_breakers import ONE, F111, F212, G12, G23, f22
from tests.samples import bends, function, generator, no_blocks, same_kinds

GAMES = (
    ("generator", G12, True), ("generator", G23, False), ("function", F111, True), ("function", F212, False),
    ("permutation", 1), ("permutation", 8), ("swaps", 1, 1), ("swaps", 4, 4), ("swaps", 1, 4), ("marks", F111, True),
    ("marks", F212, False), ("secrets", F111, True, 0), ("secrets", F212, False, 1), ("once", G12, False, 0),
    ("once", G23, True, 1), ("opening", G12, "01", True, 0), ("opening", G23, "110", False, 1), ("next", G12, True),
    ("next", G23, False), ("inverse", f22), ("inverse", G12), ("onetime", f22, 1), ("onetime", G12, 4), ("hard", f22),
    ("hard", G23),
)
FORMS = {
    "generator": ("G", "real"), "function": ("F", "real"), "permutation": (8,), "swaps": (4, 4), "marks": ("F", "real"),
    "secrets": ("F", "real", "b"), "once": ("G", "real", "b"), "opening": ("G", "r", "real", "b"),
    "next": ("G", "real"), "inverse": ("G",), "onetime": ("G", 4), "hard": ("G",),
}
WORDS = sorted(FORMS) + ["", "Generator", "games", "hard ", "say", "longer", "bit", "real", "any", "True", None, 0, ()]


def right(value):
    """Whether the value is a game, told once more, where its blocks are among those of the samples."""
    if type(value) is not tuple or not value or type(value[0]) is not str or value[0] not in FORMS:
        return False
    form = FORMS[value[0]]
    if len(value) != 1 + len(form):
        return False
    for at, told in enumerate(form):
        part = value[1 + at]
        if told == "G":
            fits = any(same_kinds(part, block) for block in (G12, G23, f22))
        elif told == "F":
            fits = any(same_kinds(part, block) for block in (F111, F212))
        elif told == "real":
            fits = part is True or part is False
        elif told == "b":
            fits = type(part) is int and part in (0, 1)
        elif told == "r":
            fits = type(part) is str and len(part) == value[1][2] and not part.strip("01")
        else:
            fits = type(part) is int and 1 <= part <= told
        if not fits:
            return False
    return True


class CheckGame(unittest.TestCase):
    def accepted(self, game):
        before = copy.deepcopy(game)
        self.assertIsNone(check_game(game))
        self.assertTrue(same_kinds(game, before))

    def refused(self, value):
        with self.assertRaises(BadGame) as caught:
            check_game(value)
        self.assertIsInstance(caught.exception, BreakError)
        self.assertNotIsInstance(caught.exception, BadBlock)

    def judged(self, value):
        self.accepted(value) if right(value) else self.refused(value)

    def test_each_game(self):
        for game in GAMES:
            self.assertTrue(right(game))
            self.accepted(game)
        self.assertIsNone(check_game(game=GAMES[0]))

    def test_real_and_b(self):
        for real in (True, False):
            for game in (("generator", G12, real), ("function", F111, real), ("marks", F111, real),
                         ("next", G12, real)):
                self.accepted(game)
            for b in (0, 1):
                self.accepted(("secrets", F111, real, b))
                self.accepted(("once", G12, real, b))
                for r in ("00", "01", "10", "11"):
                    self.accepted(("opening", G12, r, real, b))

    def test_numbers_at_their_bounds(self):
        for l in range(-1, 12):
            self.judged(("permutation", l))
        for h in range(-1, 7):
            self.judged(("onetime", f22, h))
            for rounds in range(-1, 7):
                self.judged(("swaps", h, rounds))
        for huge in (10 ** 30, -10 ** 30, 10 ** 5000):
            for game in (("permutation", huge), ("swaps", huge, 1), ("swaps", 1, huge), ("onetime", f22, huge),
                         ("secrets", F111, True, huge), ("once", G12, True, huge)):
                self.refused(game)

    def test_large_blocks(self):
        for block in (generator(10, 40), generator(1, 40), generator(10, 1)):
            r = "01" * 20
            for game in (("generator", block, True), ("once", block, False, 1), ("next", block, True),
                         ("inverse", block), ("onetime", block, 4), ("hard", block),
                         ("opening", block, r[:block[2]], True, 0)):
                self.accepted(game)
        for block in (function(8, 4, 40), function(4, 8, 40), function(1, 1, 40)):
            for game in (("function", block, True), ("marks", block, False), ("secrets", block, True, 1)):
                self.accepted(game)

    def test_bent_at_one_place(self):
        kept = 0
        for game in GAMES:
            for number, value in enumerate(bends(game)):
                with self.subTest(game=game, number=number):
                    self.judged(value)
                    kept += right(value)
        self.assertGreater(kept, 20)

    def test_parts_left_out_doubled_turned_round_emptied_and_lists(self):
        for game in GAMES:
            for at in range(len(game)):
                self.judged(game[:at] + game[at + 1:])
                self.judged(game[:at] + (game[at], game[at]) + game[at + 1:])
                for empty in ((), [], "", None, 0, 1, True, False, -1, 2, 5, 9, "0", "1"):
                    self.judged(game[:at] + (empty,) + game[at + 1:])
            self.judged(game[::-1])
            self.judged(game[:1] + game[:0:-1])
            self.judged(list(game))
            self.judged((game,))
            self.judged(game + game)
            self.judged(game + (True,))
            self.judged(game + ((),))

    def test_with_another_word(self):
        for game in GAMES:
            for word in WORDS:
                self.judged((word,) + game[1:])
            self.judged(game[1:])

    def test_strings_of_another_length_or_sign(self):
        for r in ("", "0", "1", "000", "0" * 40, "02", "2", " 0", "0 ", "0b", "\n0", "O1", 0, 1, None, True, ("0", "1"),
                  ["0", "1"]):
            self.refused(("opening", G12, r, True, 0))
        for r in ("00", "0000", "1" * 4):
            self.refused(("opening", G23, r, True, 0))

    def test_blocks_of_the_other_kind(self):
        for game in GAMES:
            if type(game[-1]) is tuple or len(game) > 2 and type(game[1]) is tuple:
                other = F111 if game[1][0] == "generator" else G12
                self.refused(game[:1] + (other,) + game[2:])

    def test_values_of_any_kind(self):
        for number, value in enumerate(no_blocks()):
            with self.subTest(number=number):
                self.judged(value)

    def test_values_nested_very_deep(self):
        for around in (lambda value: (value,), lambda value: [value], lambda value: ("hard", value)):
            value = ()
            for _ in range(100000):
                value = around(value)
            self.refused(value)
            for game in GAMES:
                for at in range(len(game)):
                    self.refused(game[:at] + (value,) + game[at + 1:])

    def test_each_function_that_is_handed_a_game_looks_at_it_first(self):
        values = [value for game in GAMES for value in bends(game) if not right(value)]
        for value in values[::5] + list(no_blocks())[::97]:
            for asked in (lambda: play(value, ONE, []), lambda: play(value, ONE, [-1]), lambda: chance(value, ONE),
                          lambda: ways(value, ONE), lambda: ways(value, None, most=1)):
                with self.assertRaises(BadGame):
                    asked()
        with self.assertRaises(BadChoice):
            play(GAMES[0], ONE, [-1])


if __name__ == "__main__":
    unittest.main()
