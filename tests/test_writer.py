"""Draws, the plain writer, and the plain chances [3.3], [3.4], [3.5]."""

import itertools
import math
import random
import unittest
from fractions import Fraction

import by_hand
import drawn
from draftward.errors import BadModel, BadNumber, BadOutcome, BadPrompt, BadSettings, BadTape, BadWeights
from draftward.writer import draw, plain_chance, plain_chances, write_plain
from samples import ODD, Case, is_int, spoiled

COIN = ("window", 3, 0, (), (1, 2, 1))
NEVER = ("window", 3, 0, (), (0, 2, 1))
SURE = ("window", 2, 0, (), (5, 0))
LAST = ("window", 3, 1, (((1,), (0, 1, 3)),), (1, 2, 1))
ONE = ((1,),)
NET = ("net", 2, 1, ((1,), (2,)), ((0,),), ((ONE, ONE, ONE, ONE),), ((0,), (1,)))

# Each function with the arguments that are common to them, and one that follows.
ASKING = ((write_plain, ("tape", (1, 2))), (plain_chance, ("outcome", ((1,), "end"))), (plain_chances, None))
WRONG_TAPES = ([], [1], None, 1, "1", {}, (-1,), (1, -1), (True,), (1, False), ("1",), (None,), ((1,),), (1, [1]))


class Draws(Case):

    def test_each_number(self):
        for weights in ((1,), (5,), (1, 2, 1), (0, 0, 3), (2, 0, 2, 0), (0, 1, 0), (7, 1, 1, 1), (0, 0, 0, 1)):
            expanded = [token for token, weight in enumerate(weights) for _ in range(weight)]
            for u in range(3 * len(expanded) + 2):
                self.same(draw(weights, (u,), 0), (expanded[u % len(expanded)], 1))

    def test_the_number_is_that_at_the_position(self):
        tape = (3, 0, 2, 1)
        self.same([draw((1, 1, 1, 1), tape, used) for used in range(4)], [(3, 1), (0, 2), (2, 3), (1, 4)])

    def test_the_end_of_the_tape_and_behind_it(self):
        for used in (2, 3, 4, 50, 10 ** 39):
            self.same(draw((1, 2, 1), (3, 3), used), (0, used + 1))
            self.same(draw((0, 0, 1), (3, 3), used), (2, used + 1))
        self.same(draw((1, 1), (), 0), (0, 1))
        self.same(draw((0, 1), (), 7), (1, 8))

    def test_integers_greater_than_the_sum(self):
        self.same(draw((1, 2, 1), (4,), 0), (0, 1))
        self.same(draw((1, 2, 1), (7,), 0), (2, 1))
        self.same(draw((1, 2, 1), (10 ** 39 + 1,), 0), (1, 1))
        self.same(draw((10 ** 39, 10 ** 39), (2 * 10 ** 39 - 1,), 0), (1, 1))
        self.same(draw((10 ** 39, 10 ** 39), (2 * 10 ** 39,), 0), (0, 1))

    def test_wrong_weights_come_first(self):
        for weights in ((), (0,), (0, 0, 0), (-1, 2), (1, -1), (True,), (1, True), [1, 2], [], None, 1, "12", (1, None),
                        ("1",), ((1,),), {}, {0: 1}, (False, 1)):
            self.fails(BadWeights, weights, draw, weights, None, None)
            self.fails(BadWeights, weights, draw, weights, (1,), 0)

    def test_a_wrong_tape_comes_before_a_wrong_position(self):
        for tape in WRONG_TAPES:
            self.fails(BadTape, tape, draw, (1,), tape, None)
            self.fails(BadTape, tape, draw, (1,), tape, 0)

    def test_a_wrong_position(self):
        for used in (-1, True, False, None, "0", (0,), [0], {}, -(10 ** 39)):
            self.fails(BadNumber, used, draw, (1,), (1, 2), used)

    def test_any_values(self):
        for thing in (*ODD, *spoiled((1, 0, 2))):
            if by_hand.are_ints_from(thing, 0):
                self.assertEqual(draw((1, 1), thing, 0), ((*thing, 0)[0] % 2, 1))
            else:
                self.fails(BadTape, thing, draw, (1, 1), thing, 0)
            if by_hand.are_ints_from(thing, 0) and any(thing):
                self.same(draw(thing, (), 5)[1], 6)
            else:
                self.fails(BadWeights, thing, draw, thing, (), 0)
            if is_int(thing) and thing >= 0:
                self.same(draw((1,), (), thing), (0, thing + 1))
            else:
                self.fails(BadNumber, thing, draw, (1,), (), thing)

    def test_by_name(self):
        self.same(draw(used=1, tape=(6, 7), weights=(1, 2, 1)), (2, 2))
        self.fails(BadWeights, None, draw, used=None, tape=None, weights=None)

    def test_beyond_the_limits(self):
        self.same(draw((5000,) * 30, tuple(range(9000, 9200)), 150), (1, 151))


class Writing(Case):

    def test_until_the_end_token(self):
        self.same(write_plain(COIN, (), (1,), 3, (1, 3, 4)), ((1, 2), "end", 3))
        self.same(write_plain(COIN, (), (1,), 3, (0,)), ((), "end", 1))
        self.same(write_plain(COIN, (), (1,), 3, ()), ((), "end", 1))
        self.same(write_plain(COIN, (), (1,), 30, (1, 2, 3)), ((1, 1, 2), "end", 4))

    def test_until_there_are_most(self):
        self.same(write_plain(COIN, (), (1,), 2, (1, 3, 4)), ((1, 2), "most", 2))
        self.same(write_plain(COIN, (), (2,), 3, (2, 6, 7)), ((1, 1, 2), "most", 3))
        self.same(write_plain(NEVER, (), (2,), 4, (9,)), ((1, 1, 1, 1), "most", 4))

    def test_most_0_draws_nothing(self):
        for model in (COIN, SURE, NET):
            self.same(write_plain(model, (), (1,), 0, (1, 2)), ((), "most", 0))

    def test_the_tape_at_its_end(self):
        self.same(write_plain(NEVER, (), (1,), 3, (2, 2)), ((2, 2, 1), "most", 3))
        self.same(write_plain(COIN, (), (1,), 9, (3, 3)), ((2, 2), "end", 3))

    def test_tokens_hang_on_the_prompt_and_the_answer(self):
        self.same(write_plain(LAST, (), (2, 1), 3, (0, 0, 1)), ((1, 1, 2), "most", 3))
        self.same(write_plain(LAST, (), (1, 2), 3, (1, 0, 1)), ((1, 1, 2), "most", 3))
        self.same(write_plain(LAST, (), (1, 2), 3, (0, 0, 1)), ((), "end", 1))

    def test_settings(self):
        self.same(write_plain(COIN, (("least", 2),), (1, 1, 1), 5, ()), ((1, 1), "end", 3))
        self.same(write_plain(COIN, (("ban", (0, 1, 2)),), (1,), 5, (3, 3)), ((), "end", 1))
        self.same(write_plain(COIN, (("greatest", 1),), (1,), 3, (3, 3, 3)), ((1, 1, 1), "most", 3))
        self.same(write_plain(COIN, (("seen", 1, 9),), (2,), 2, (26, 11)), ((1, 2), "most", 2))

    def test_as_by_hand(self):
        source = random.Random(35)
        for _ in range(800):
            model = drawn.some_model(source, source.randint(2, 5))
            settings = drawn.some_settings(source, model[1])
            prompt = drawn.some_prompt(source, model[1], 5)
            most = source.randint(0, 7)
            tape = drawn.some_tape(source)
            after = by_hand.plain(model, settings, prompt)
            draws = by_hand.Draws(tape)
            answer, reason = (), "most"
            while len(answer) < most:
                token = draws.token(after(answer))
                if token == 0:
                    reason = "end"
                    break
                answer += (token,)
            self.same(write_plain(model, settings, prompt, most, tape), (answer, reason, draws.used))


class Chances(Case):

    def test_most_0(self):
        self.same(plain_chances(COIN, (), (1,), 0), ((((), "most"), (1, 1)),))
        self.same(plain_chance(COIN, (), (1,), 0, ((), "most")), (1, 1))

    def test_all_outcomes(self):
        self.same(plain_chances(COIN, (), (1,), 2), (
            (((), "end"), (1, 4)), (((1,), "end"), (1, 8)), (((1, 1), "most"), (1, 4)), (((1, 2), "most"), (1, 8)),
            (((2,), "end"), (1, 16)), (((2, 1), "most"), (1, 8)), (((2, 2), "most"), (1, 16))))
        self.same(plain_chances(LAST, (), (1,), 2), (
            (((1, 1), "most"), (1, 16)), (((1, 2), "most"), (3, 16)), (((2,), "end"), (3, 16)),
            (((2, 1), "most"), (3, 8)), (((2, 2), "most"), (3, 16))))

    def test_what_cannot_come_is_left_out(self):
        self.same(plain_chances(SURE, (), (1,), 5), ((((), "end"), (1, 1)),))
        self.same(plain_chances(NEVER, (("ban", (1,)),), (1,), 3), ((((2, 2, 2), "most"), (1, 1)),))
        self.same(plain_chances(COIN, (("least", 1), ("greatest", 1)), (1,), 1), ((((1,), "most"), (1, 1)),))

    def test_what_cannot_come_has_the_chance_zero(self):
        self.same(plain_chance(SURE, (), (1,), 2, ((1,), "end")), (0, 1))
        self.same(plain_chance(SURE, (), (1,), 2, ((1, 1), "most")), (0, 1))
        self.same(plain_chance(NEVER, (), (1,), 2, ((), "end")), (0, 1))
        self.same(plain_chance(NEVER, (), (1,), 2, ((2,), "end")), (0, 1))
        self.same(plain_chance(LAST, (), (1,), 3, ((1, 1), "end")), (0, 1))
        self.same(plain_chance(COIN, (("ban", (2,)),), (1,), 2, ((2, 1), "most")), (0, 1))
        self.same(plain_chance(SURE, (), (1,), 2, ((), "end")), (1, 1))

    def test_long_answers(self):
        chances = plain_chances(("window", 2, 0, (), (1, 1)), (), (1,), 39)
        self.same(len(chances), 40)
        self.same(chances[-1], (((1,) * 39, "most"), (1, 2 ** 39)))
        self.same(chances[3], (((1,) * 3, "end"), (1, 16)))
        self.same(plain_chance(("window", 2, 0, (), (1, 1)), (), (1,), 39, ((1,) * 30, "end")), (1, 2 ** 31))

    def test_as_by_hand(self):
        source = random.Random(36)
        for _ in range(150):
            model = drawn.some_model(source, source.randint(2, 4))
            settings = drawn.some_settings(source, model[1])
            prompt = drawn.some_prompt(source, model[1])
            most = source.randint(0, 3)
            after = by_hand.plain(model, settings, prompt)
            found = plain_chances(model, settings, prompt, most)
            self.same(found, by_hand.chances(after, model[1], most))
            self.check_sum(found)
            for outcome in by_hand.outcomes(model[1], most):
                right = by_hand.pair(by_hand.chance(after, outcome))
                self.same(plain_chance(model, settings, prompt, most, outcome), right)
                self.same(right, dict(found).get(outcome, (0, 1)))

    def check_sum(self, found):
        self.assertEqual(sum(Fraction(*chance) for _, chance in found), 1)
        self.assertEqual([outcome for outcome, _ in found], sorted({outcome for outcome, _ in found}))
        for _, (n, d) in found:
            self.assertTrue(0 < n <= d and math.gcd(n, d) == 1)

    def test_sums_at_the_limits(self):
        source = random.Random(37)
        for size, most in ((8, 3), (5, 4), (3, 8), (2, 20), (8, 2), (401, 1)):
            for model in (drawn.some_window(source, size), drawn.some_network(source, size)):
                for settings in ((), (("power", 4), ("power", 4)), (("least", 2), ("share", 9, 10)), (("seen", 7, 3),)):
                    self.check_sum(plain_chances(model, settings, (1,) * 12, most))

    def test_chances_are_shares_of_the_tapes(self):
        for model, settings, base in ((COIN, (), 4), (LAST, (), 4), (COIN, (("ban", (0,)),), 3), (NEVER, (), 3)):
            for most in range(4):
                many = {}
                for tape in itertools.product(range(base), repeat=most):
                    answer, reason, _ = write_plain(model, settings, (1,), most, tape)
                    many[answer, reason] = many.get((answer, reason), 0) + 1
                right = tuple((outcome, by_hand.pair(Fraction(many[outcome], base ** most))) for outcome in sorted(many))
                self.same(plain_chances(model, settings, (1,), most), right)


class Outcomes(Case):

    def test_right_ones(self):
        for most in range(4):
            for outcome in by_hand.outcomes(3, most):
                n, d = plain_chance(COIN, (), (1,), most, outcome)
                self.assertTrue(n > 0 and d >= n)

    def test_wrong_ones(self):
        for most, outcome in ((2, ((), "most")), (2, ((1,), "most")), (2, ((1, 1), "end")), (2, ((1, 1, 1), "most")),
                              (2, ((1, 1, 1), "end")), (0, ((), "end")), (0, ((1,), "most")), (1, ((1,), "end")),
                              (2, ((0, 1), "most")), (2, ((1, 3), "most")), (2, ((1, -1), "most")), (2, ((0,), "end")),
                              (2, ((True,), "end")), (2, ((1, True), "most")), (2, ([1], "end")), (2, [(1,), "end"]),
                              (2, ((1,),)), (2, ((1,), "end", "end")), (2, ((1,), "End")), (2, ((1,), "refused")),
                              (2, ((1,), None)), (2, (("1",), "end")), (2, (1, "end")), (2, ("end", (1,))), (2, ("", "end")),
                              (2, ("refused",)), (2, None), (2, ()), (2, "end"), (2, ((1,), ["end"])), (2, {})):
            self.fails(BadOutcome, outcome, plain_chance, COIN, (), (1,), most, outcome)

    def test_tokens_of_another_size(self):
        outcome = ((2,), "end")
        self.fails(BadOutcome, outcome, plain_chance, NET, (), (1,), 2, outcome)
        self.same(plain_chance(COIN, (), (1,), 2, outcome), (1, 16))

    def test_any_values(self):
        for right in (((1, 2), "most"), ((2,), "end")):
            for outcome in (*ODD, *spoiled(right)):
                if repr(outcome) in map(repr, by_hand.outcomes(3, 2)):
                    self.assertEqual(plain_chance(COIN, (), (1,), 2, outcome)[0], 1)
                else:
                    self.fails(BadOutcome, outcome, plain_chance, COIN, (), (1,), 2, outcome)


class Errors(Case):

    def given(self, last):
        return () if last is None else (None,)

    def test_the_model_comes_first(self):
        for function, last in ASKING:
            for model in (*ODD, list(COIN)):
                self.fails(BadModel, model, function, model, None, None, None, *self.given(last))

    def test_then_the_settings(self):
        for function, last in ASKING:
            for settings in (None, [], (("power", 0),), (("ban", (3,)),), "", 0, ((),)):
                self.fails(BadSettings, settings, function, COIN, settings, None, None, *self.given(last))

    def test_then_the_prompt(self):
        for function, last in ASKING:
            for prompt in ((), (0,), (1, 0), (3,), (-1,), (True,), (1, True), [1], None, 1, "1", ("1",), {}, ((1,),)):
                self.fails(BadPrompt, prompt, function, COIN, (), prompt, None, *self.given(last))

    def test_then_most(self):
        for function, last in ASKING:
            for most in (-1, True, False, None, "1", (1,), [1], -(10 ** 39), {}):
                self.fails(BadNumber, most, function, COIN, (), (1,), most, *self.given(last))

    def test_then_the_tape(self):
        for tape in WRONG_TAPES:
            for most in (0, 3):
                self.fails(BadTape, tape, write_plain, COIN, (), (1,), most, tape)

    def test_any_values_as_the_prompt(self):
        for function, last in ASKING:
            for prompt in (*ODD, *spoiled((1, 2))):
                if not by_hand.are_right_tokens(prompt, 3) or not prompt:
                    self.fails(BadPrompt, prompt, function, COIN, (), prompt, None, *self.given(last))

    def test_by_name(self):
        for function, last in ASKING:
            named = dict([last] if last else [], most=2, prompt=(1,), settings=(), model=COIN)
            self.same(function(**named), function(COIN, (), (1,), 2, *([last[1]] if last else [])))
            wrong = {**named, "prompt": (), "settings": None}
            self.fails(BadSettings, None, function, **wrong)
        self.same(write_plain(tape=(1,), most=1, prompt=(1,), settings=(), model=COIN), ((1,), "most", 1))

    def test_beyond_the_limits(self):
        wide = ("window", 12, 0, (), (2000,) * 12)
        self.same(write_plain(wide, (), (1,) * 30, 60, (3000,) * 70), ((1,) * 60, "most", 60))
        self.same(write_plain(wide, (("least", 500),) * 6, (11,), 3, (1,)), ((1, 1, 1), "most", 3))
        self.same(len(plain_chances(wide, (), (1,) * 20, 2)), 1 + 11 + 121)
        self.same(plain_chance(wide, (), (1,) * 30, 90, ((1,) * 70, "end")), (1, 12 ** 71))
        self.same(len(plain_chances(("window", 2, 0, (), (1, 1)), (), (1,), 90)), 91)


if __name__ == "__main__":
    unittest.main()
