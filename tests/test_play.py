"""Promises 8 to 12: plays of breakers, plain and made, in every game."""

import copy
import random
import unittest

from breakback.errors import BadChoice, BadScheme, BreakError, TooMany
from breakback.games import Play, play
from tests import model
from tests.sample_breakers import LEADING, ONE, ZERO, ask, breakers, f22, games, look, over, say, toss
from tests.samples import strings

ROWS = ("generator", 2, 3, ("011", "100", "111", "010"))
TABLE = ("function", 1, 2, 2, (("00", "01", "10", "11"), ("11", "10", "00", "01")))


class Played(unittest.TestCase):
    def check(self, game, breaker, choices, outcome, said, draws, asked):
        """The play is as told, with the choices in a list and in a tuple, and with some that are not needed."""
        for row in (list(choices), tuple(choices), [*choices, *[-1] * 3] if len(choices) >= len(draws) else choices):
            before = copy.deepcopy(row)
            found = play(game, breaker, row)
            self.assertIs(type(found), Play)
            self.assertEqual((found.outcome, found.said, found.draws, found.asked), (outcome, said, draws, asked))
            self.assertEqual(row, before)
            self.assertIs(type(found.outcome), int)
            self.assertIs(type(found.draws), list)
            self.assertIs(type(found.asked), list)
            self.assertTrue(all(type(pair) is tuple for pair in found.draws + found.asked))


class TellingApart(Played):
    def test_generator(self):
        copied = look(0, ("say", (1,)), ("say", (1, 2)))
        self.check(("generator", ROWS, True), copied, [0], 1, "1", [(0, 4)], [])
        self.check(("generator", ROWS, True), copied, [2], 0, "11", [(2, 4)], [])
        self.check(("generator", ROWS, True), copied, [3], 1, "1", [(3, 4)], [])
        self.check(("generator", ROWS, False), copied, [3], 1, "1", [(3, 8)], [])
        self.check(("generator", ROWS, False), copied, [6], 0, "10", [(6, 8)], [])
        self.check(("generator", ROWS, False), copied, [0], 0, "0", [(0, 8)], [])
        self.check(("generator", ROWS, True), say(""), [], 0, "", [(0, 4)], [])

    def test_generator_answers_nothing(self):
        for real, many in ((True, 4), (False, 8)):
            self.check(("generator", ROWS, real), ask("011", ask("", ask("0", ONE))), [1], 1, "1", [(1, many)],
                       [("011", ""), ("", ""), ("0", "")])

    def test_the_breaker_draws_behind_the_game(self):
        breaker = toss(ZERO, toss(ONE), toss(ZERO, ONE))
        self.check(("generator", ROWS, True), breaker, [3, 2, 1], 1, "1", [(3, 4), (2, 3), (1, 2)], [])
        self.check(("generator", ROWS, True), breaker, [3, 1, 0], 1, "1", [(3, 4), (1, 3), (0, 1)], [])
        self.check(("generator", ROWS, False), breaker, [7], 0, "0", [(7, 8), (0, 3)], [])

    def test_function(self):
        breaker = ask("10", ask("01", ask("10", ("say", (0, 1, 2, 3, 4, 5)))))
        self.check(("function", TABLE, True), breaker, [0], 0, "100110", [(0, 2)],
                   [("10", "10"), ("01", "01"), ("10", "10")])
        self.check(("function", TABLE, True), breaker, [1], 0, "001000", [(1, 2)],
                   [("10", "00"), ("01", "10"), ("10", "00")])
        self.check(("function", TABLE, False), breaker, [3, 1], 0, "110111", [(3, 4), (1, 4)],
                   [("10", "11"), ("01", "01"), ("10", "11")])

    def test_asks_of_another_length(self):
        breaker = ask("1", ask("", ask("011", ask("01", ask("0", ("say", (1,)))))))
        asked = [("1", ""), ("", ""), ("011", ""), ("01", "01"), ("0", "")]
        self.check(("function", TABLE, True), breaker, [0], 1, "1", [(0, 2)], asked)
        self.check(("function", TABLE, False), breaker, [1], 1, "1", [(1, 4)], asked)
        self.check(("permutation", 2), breaker, [1], 1, "1", [(1, 4)], asked)
        self.check(("marks", TABLE, False), breaker, [1], 0, "1", [(1, 4)], asked)
        asked[3] = ("01", "11")
        self.check(("swaps", 1, 1), breaker, [1], 1, "1", [(1, 2)], asked)

    def test_draws_and_asks_in_turn(self):
        breaker = toss(ZERO, ask("11", toss(ask("00", toss(ZERO, ("say", (3,)))), ONE)))
        self.check(("function", TABLE, False), breaker, [1, 2, 0, 1, 1], 1, "1",
                   [(1, 2), (2, 4), (0, 2), (1, 4), (1, 2)], [("11", "10"), ("00", "01")])
        self.check(("function", TABLE, True), breaker, [1, 1, 0, 1], 1, "1",
                   [(1, 2), (1, 2), (0, 2), (1, 2)], [("11", "01"), ("00", "11")])

    def test_permutation(self):
        breaker = ask("10", ask("00", ask("10", ask("11", ask("01", ("say", tuple(range(10))))))))
        asked = [("10", "01"), ("00", "11"), ("10", "01"), ("11", "00"), ("01", "10")]
        self.check(("permutation", 2), breaker, [1, 2, 0, 0], 0, "0111010010", [(1, 4), (2, 3), (0, 2), (0, 1)], asked)
        asked = [("10", "00"), ("00", "01"), ("10", "00"), ("11", "11"), ("01", "10")]
        self.check(("permutation", 2), breaker, [0, 0, 1], 0, "0001001110", [(0, 4), (0, 3), (1, 2), (0, 1)], asked)
        self.check(("permutation", 1), ask("1", ("say", (0,))), [1], 1, "1", [(1, 2)], [("1", "1")])
        self.check(("permutation", 8), ask("1" * 8, ask("0" * 8, ONE)), [255, 254], 1, "1", [(255, 256), (254, 255)],
                   [("1" * 8, "1" * 8), ("0" * 8, "11111110")])

    def test_swaps(self):
        breaker = ask("01", ask("11", ask("01", ("say", (0, 1, 2, 3)))))
        # One round: (0, 1) becomes (1, 0 xor f(1)), and (1, 1) becomes (1, 1 xor f(1)).
        self.check(("swaps", 1, 1), breaker, [1], 0, "1110", [(1, 2)], [("01", "11"), ("11", "10"), ("01", "11")])
        # Two rounds: (0, 1), (1, 0 xor 0), (0, 1 xor g(0) = 1); (1, 1), (1, 1 xor 0), (1, 1 xor g(1) = 0).
        self.check(("swaps", 1, 2), breaker, [0, 1], 0, "0011", [(0, 2), (1, 2), (0, 2)],
                   [("01", "00"), ("11", "11"), ("01", "00")])
        self.check(("swaps", 1, 2), breaker, [0, 1, 1], 0, "0010", [(0, 2), (1, 2), (1, 2)],
                   [("01", "00"), ("11", "10"), ("01", "00")])
        self.check(("swaps", 2, 1), ask("0110", ("say", (0, 1, 2, 3))), [3], 0, "1010", [(3, 4)], [("0110", "1010")])
        self.check(("swaps", 2, 3), ask("0110", ("say", (0, 1, 2, 3))), [3, 1, 2], 0, "1100", [(3, 4), (1, 4), (2, 4)],
                   [("0110", "1100")])
        self.check(("swaps", 4, 4), ask("1" * 8, ONE), [], 1, "1", [(0, 16)] * 4, [("1" * 8, "1" * 8)])

    def test_swaps_of_another_length(self):
        self.check(("swaps", 1, 3), ask("0", ask("011", ask("", ONE))), [], 1, "1", [],
                   [("0", ""), ("011", ""), ("", "")])


class Gaining(Played):
    def test_marks(self):
        breaker = ask("01", ("say", ("1", "0", 0, 1)))
        self.check(("marks", TABLE, True), breaker, [0], 0, "1001", [(0, 2)], [("01", "01")])
        self.check(("marks", TABLE, True), ask("11", ("say", ("0", "1", "1", "0"))), [1], 1, "0110", [(1, 2)],
                   [("11", "01")])
        self.check(("marks", TABLE, False), breaker, [2, 2], 1, "1010", [(2, 4), (2, 4)], [("01", "10")])
        self.check(("marks", TABLE, False), breaker, [2, 1], 0, "1010", [(2, 4), (1, 4)], [("01", "10")])

    def test_marks_of_what_was_asked_or_of_another_length(self):
        for said in ("0101", "010", "01", "", "01010", "10000"):
            draws = [(1, 4)]
            self.check(("marks", TABLE, False), ask("01", say(said)), [1], 0, said, draws, [("01", "01")])
        # A shorter ask is no ask of the string.
        self.check(("marks", TABLE, True), ask("0", ask("011", say("0101"))), [0], 1, "0101", [(0, 2)],
                   [("0", ""), ("011", "")])
        self.check(("marks", TABLE, False), say("0101"), [1], 1, "0101", [(1, 4)], [])

    def test_secrets(self):
        breaker = ask("0110", ask("1100", ("say", (2, 3, 6, 7))))
        # A string r is drawn, and the value there hides the message.
        self.check(("secrets", TABLE, True, 0), breaker, [1, 2, 0], 0, "0100", [(1, 2), (2, 4), (0, 4)],
                   [("0110", "1001"), ("1100", "0000")])
        self.check(("secrets", TABLE, True, 1), breaker, [1, 2, 0], 0, "1011", [(1, 2), (2, 4), (0, 4)],
                   [("0110", "1010"), ("1100", "0011")])
        self.check(("secrets", TABLE, False, 1), breaker, [3, 1, 3], 0, "1101", [(3, 4), (1, 4), (3, 4)],
                   [("0110", "1111"), ("1100", "1101")])
        self.check(("secrets", TABLE, False, 0), breaker, [3, 1, 2, 3], 0, "0000", [(3, 4), (1, 4), (2, 4), (3, 4)],
                   [("0110", "1100"), ("1100", "1000")])
        self.check(("secrets", TABLE, False, 0), ask("011", ask("01", ONE)), [], 1, "1", [], [("011", ""), ("01", "")])
        self.check(("secrets", TABLE, True, 0), ask("011", ONE), [], 1, "1", [(0, 2)], [("011", "")])

    def test_once(self):
        breaker = ask("01", ask("110011", ask("110011", ask("01", ("say", (0, 1, 2))))))
        for b, answer in ((0, "001"), (1, "100")):
            asked = [("01", ""), ("110011", answer), ("110011", ""), ("01", "")]
            self.check(("once", ROWS, True, b), breaker, [2], 0, answer, [(2, 4)], asked)
            self.check(("once", ROWS, False, b), breaker, [7], 0, answer, [(7, 8)], asked)
        self.check(("once", ROWS, True, 1), ask("000001", ("say", (2,))), [0], 0, "0", [(0, 4)], [("000001", "010")])
        self.check(("once", ROWS, True, 0), ask("000001", ("say", (2,))), [0], 1, "1", [(0, 4)], [("000001", "011")])

    def test_opening(self):
        breaker = ask("011", ("say", (0, 1, 2)))
        for real, draws in ((True, [(1, 4)]), (False, [(1, 8)])):
            row = "100" if real else "001"
            self.check(("opening", ROWS, "011", real, 0), breaker, [1], 0, row, draws, [("011", "")])
            other = "111" if real else "010"
            self.check(("opening", ROWS, "011", real, 1), breaker, [1], 0, other, draws, [("011", "")])
        self.check(("opening", ROWS, "011", True, 1), ("say", (1,)), [1], 1, "1", [(1, 4)], [])
        self.check(("opening", ROWS, "011", True, 0), ("say", (1,)), [1], 0, "0", [(1, 4)], [])

    def test_next(self):
        breaker = ask("0", ("say", (0, 1, 2)))
        for choices, said in (([0, 0], "100"), ([1, 0], "010"), ([2, 0], "011"), ([0, 1], "100"), ([1, 1], "110"),
                              ([2, 1], "101")):
            row = ROWS[3][choices[1]]
            bit = row[choices[0]]
            self.check(("next", ROWS, True), breaker, choices, 1 if bit == "0" else 0, said,
                       [(choices[0], 3), (choices[1], 4)], [("0", "")])
        self.check(("next", ROWS, True), ONE, [2, 0], 1, "1", [(2, 3), (0, 4)], [])
        self.check(("next", ROWS, True), ZERO, [2, 0], 0, "0", [(2, 3), (0, 4)], [])
        self.check(("next", ROWS, False), ONE, [2, 6], 0, "1", [(2, 3), (6, 8)], [])
        self.check(("next", ROWS, False), say("11"), [2, 6], 1, "11", [(2, 3), (6, 8)], [])

    def test_inverse(self):
        block = ("generator", 2, 2, ("01", "10", "01", "11"))
        for said, outcome in (("00", 1), ("10", 1), ("01", 0), ("11", 0), ("0", 0), ("000", 0), ("", 0)):
            self.check(("inverse", block), say(said), [2], outcome, said, [(2, 4)], [])
        self.check(("inverse", block), ask("10", ("say", (0, 1))), [2], 0, "01", [(2, 4)], [("10", "")])

    def test_onetime(self):
        block = ("generator", 1, 2, ("01", "10"))
        draws = [(0, 2), (1, 2)]
        self.check(("onetime", block, 1), ask("1", ask("0", ("say", ("0", "1", 4)))), [0, 1], 0, "011", draws,
                   [("1", "1"), ("0", "")])
        self.check(("onetime", block, 1), ask("1", ask("1", ("say", ("0", 5)))), [0, 1], 1, "00", draws,
                   [("1", "1"), ("1", "")])
        self.check(("onetime", block, 1), ask("1", ("say", ("0", "0"))), [0, 1], 1, "00", draws, [("1", "1")])
        self.check(("onetime", block, 1), ask("1", ("say", ("1", 4))), [0, 1], 0, "11", draws, [("1", "1")])
        self.check(("onetime", block, 1), ask("11", ask("", say("11"))), [0, 1], 1, "11", draws, [("11", ""), ("", "")])
        self.check(("onetime", block, 1), ("say", (0, 1, 2, 3)), [1, 0], 0, "1001", [(1, 2), (0, 2)], [])

    def test_onetime_of_two_bits(self):
        block = ("generator", 2, 2, ("01", "10", "01", "11"))
        draws = [(0, 4), (1, 4), (2, 4), (3, 4)]
        # The strings are 00, 01, 10, 11 for the places (0, 0), (0, 1), (1, 0), (1, 1); the rows 01, 10, 01, 11.
        self.check(("onetime", block, 2), ("say", tuple(range(8))), [0, 1, 2, 3], 0, "01100111", draws, [])
        self.check(("onetime", block, 2), ask("01", ("say", tuple(range(8, 12)))), [0, 1, 2, 3], 0, "0011", draws,
                   [("01", "0011")])
        for said, outcome in (("110111", 1), ("010011", 0), ("000010", 1), ("001010", 1), ("000110", 0), ("000011", 0),
                              ("100100", 1), ("11011", 0), ("1101110", 0), ("11", 0), ("", 0)):
            self.check(("onetime", block, 2), ask("01", say(said)), [0, 1, 2, 3], outcome, said, draws,
                       [("01", "0011")])
        self.check(("onetime", block, 2), say("010011"), [0, 1, 2, 3], 1, "010011", draws, [])

    def test_hard(self):
        block = ("generator", 2, 3, ROWS[3])
        for x in range(4):
            for r in range(4):
                both = (x & r) % 2 ^ (x & r) // 2
                handed = block[3][x] + strings(2)[r]
                self.check(("hard", block), ask("0", ("say", (0, 1, 2, 3, 4))), [x, r], 1 - both, handed,
                           [(x, 4), (r, 4)], [("0", "")])
                self.check(("hard", block), ONE, [x, r], both, "1", [(x, 4), (r, 4)], [])


class MadeOnes(Played):
    def test_the_draws_of_game_made_one_and_inner_one(self):
        breaker = ("longer", ROWS, 3, toss(ZERO, ("say", (1,))))
        self.check(("generator", ROWS, True), breaker, [2, 1, 1, 1], 1, "1", [(2, 4), (1, 3), (1, 2), (1, 2)], [])
        breaker = ("guess", 3, toss(ONE, ZERO))
        self.check(("generator", ROWS, True), breaker, [2, 1, 1], 0, "0", [(2, 4), (1, 3), (1, 2)], [])

    def test_asks_are_those_between_the_game_and_the_made_one(self):
        breaker = ("secrets", 2, 2, ask("0110", ask("11", ask("1111", ("say", (2,))))))
        self.check(("function", TABLE, True), breaker, [1, 1, 2, 3], 1, "1", [(1, 2), (1, 2), (2, 4), (3, 4)],
                   [("10", "00"), ("11", "01")])
        breaker = ("marks", 2, 2, ask("0", ask("01", say("0010"))))
        self.check(("function", TABLE, False), breaker, [1, 2], 1, "1", [(1, 4), (2, 4)],
                   [("0", ""), ("01", "01"), ("00", "10")])
        breaker = ("counter", 2, 3, 2, ask("01", ("say", (5,))))
        self.check(("function", TABLE, False), breaker, [1, 2, 3], 1, "1", [(1, 4), (2, 4), (3, 4)],
                   [("00", "01"), ("01", "10"), ("10", "11")])

    def test_a_breaker_that_never_learns_of_its_challenge_draws_all_the_same(self):
        self.check(("generator", ROWS, True), ("once", 3, ONE), [3, 1], 1, "1", [(3, 4), (1, 2)], [])
        self.check(("generator", ROWS, True), ("once", 3, ONE), [3, 0], 0, "0", [(3, 4), (0, 2)], [])
        self.check(("inverse", f22), ("onetime", f22, 1, say("")), [3, 1, 2], 0, "", [(3, 4), (1, 2), (2, 4)], [])
        self.check(("next", ROWS, True), ("next", 3, ONE), [2, 0, 1], 1, "1", [(2, 3), (0, 4), (1, 2)], [])


class Choices(unittest.TestCase):
    def refused(self, game, breaker, choices):
        before = copy.deepcopy(choices)
        with self.assertRaises(BadChoice) as caught:
            play(game, breaker, choices)
        self.assertIsInstance(caught.exception, BreakError)
        self.assertNotIsInstance(caught.exception, (TooMany, BadScheme))
        self.assertEqual(choices, before)

    def test_a_choice_must_be_below_the_number_of_which_it_is_one(self):
        breaker = toss(ONE, ZERO, toss(ONE))
        for wrong in (-1, -4, 10 ** 30, -10 ** 30):
            self.refused(("generator", ROWS, True), breaker, [wrong])
            self.refused(("generator", ROWS, True), breaker, (0, wrong))
            self.refused(("generator", ROWS, True), breaker, [0, 2, wrong])
        for choices in ([4], [5, 0], [0, 3], [3, 4], [0, 2, 1], (4,), [8, 8, 8]):
            self.refused(("generator", ROWS, True), breaker, choices)
        self.refused(("generator", ROWS, False), breaker, [8])
        self.refused(("permutation", 1), ask("0", ask("1", ONE)), [0, 1])
        self.refused(("generator", ROWS, True), ("longer", ROWS, 2, ONE), [0, 0, 1])

    def test_choices_that_are_not_taken_are_not_looked_at(self):
        for further in ([-1], [99], [10 ** 30, -1]):
            found = play(("generator", ROWS, True), ONE, [3, *further])
            self.assertEqual(found.draws, [(3, 4)])
        self.assertEqual(play(("permutation", 3), ONE, [-1, 99]).draws, [])
        self.assertEqual(play(("generator", ROWS, True), toss(ONE, toss(ZERO, ONE)), [0, 0, 7]).said, "1")

    def test_where_the_row_has_ended_the_choice_is_0(self):
        breaker = toss(toss(ZERO, ONE), ONE)
        for row in ([], [0], [0, 0], [0, 0, 0], ()):
            found = play(("generator", ROWS, True), breaker, row)
            self.assertEqual((found.said, found.draws), ("0", [(0, 4), (0, 2), (0, 2)]))

    def test_by_position_and_by_name(self):
        first = play(("generator", ROWS, True), toss(ONE, ZERO), [2, 1])
        again = play(choices=[2, 1], breaker=toss(ONE, ZERO), game=("generator", ROWS, True))
        for found in (first, again):
            self.assertEqual((found.outcome, found.said, found.draws, found.asked), (0, "0", [(2, 4), (1, 2)], []))

    def test_what_is_returned_belongs_to_the_caller(self):
        game, breaker, row = ("function", TABLE, False), ask("01", ask("10", ONE)), [1, 2]
        first = play(game, breaker, row)
        first.draws.append((9, 9))
        first.asked.clear()
        row_before = list(row)
        again = play(game, breaker, row)
        self.assertEqual((again.draws, again.asked), ([(1, 4), (2, 4)], [("01", "01"), ("10", "10")]))
        self.assertEqual(row, row_before)
        self.assertIsNot(first.draws, again.draws)


def some_row(rng, game, breaker):
    """A row of choices for all draws of a play."""
    row = []
    while True:
        draws = model.play(game, breaker, row)[2]
        if len(draws) == len(row):
            return row
        row.append(rng.randrange(draws[len(row)][1]))


class AgainstTheModel(unittest.TestCase):
    """Plays are those of the model, along rows of choices that differ from play to play."""

    def same(self, game, breaker, row):
        found = play(game, breaker, row)
        expected = model.play(game, breaker, row)
        self.assertEqual((found.outcome, found.said, found.draws, found.asked), expected, (game, breaker, row))

    def several(self, rng, game, breaker):
        for _ in range(6):
            row = some_row(rng, game, breaker)
            self.same(game, breaker, row)
            self.same(game, breaker, row[:rng.randrange(len(row) + 1)])
            self.same(game, breaker, tuple(row) + (-1,))

    def test_plain_breakers_in_every_game(self):
        rng = random.Random(21)
        for number in range(14):
            for game, asks, says in games(rng):
                for breaker in breakers((game[0], number), 3, depth=7, asks=asks, says=says):
                    self.several(rng, game, breaker)

    def test_made_breakers(self):
        rng = random.Random(22)
        for game, made in LEADING:
            for breaker in breakers(made[0], 24, depth=6, asks=(1, 2, 2, 3, 4), says=(1, 1, 2, 3, 6)):
                self.several(rng, game, over(made, breaker))


if __name__ == "__main__":
    unittest.main()
