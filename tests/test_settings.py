"""Settings, and the next weights that they give [3.1], [3.2]."""

import itertools
import random
import unittest

import by_hand
import drawn
from draftward.errors import BadModel, BadNumber, BadSettings, BadTokens
from draftward.writer import are_settings, next_weights
from samples import ODD, Case, is_int, spoiled

COIN = ("window", 3, 0, (), (1, 2, 1))
FIVE = ("window", 5, 0, (), (3, 1, 4, 1, 5))
LAST = ("window", 3, 1, (((1,), (0, 1, 3)),), (1, 2, 1))
ONE = ((1,),)
NET = ("net", 2, 1, ((1,), (2,)), ((0,),), ((ONE, ONE, ONE, ONE),), ((0,), (1,)))
EACH = (("power", 2), ("greatest", 2), ("share", 1, 2), ("ban", (0, 2)), ("seen", 3, 1), ("least", 2))


def weights_of(weights, *settings, tokens=(1,), answered=0):
    """Return the next weights of a model that always gives these weights."""
    return next_weights(("window", len(weights), 0, (), weights), settings, tokens, answered)


class Forms(Case):

    def test_right_ones(self):
        for settings in ((), *[(step,) for step in EACH], EACH, EACH[::-1], EACH + EACH, *itertools.permutations(EACH, 2),
                         *[(step, step) for step in EACH]):
            self.assertIs(are_settings(COIN, settings), True, settings)

    def test_numbers(self):
        for step, least in ((("power", 1), 1), (("greatest", 1), 1), (("least", 0), 0), (("seen", 1, 1), 1),
                            (("share", 1, 1), 1)):
            for at in range(1, len(step)):
                for number in (least - 1, -1, -least - 5, True, False, None, "1", (1,), [1], {}, -(10 ** 39)):
                    wrong = (*step[:at], number, *step[at + 1:])
                    self.assertIs(are_settings(COIN, (wrong,)), False, wrong)
            self.assertIs(are_settings(COIN, (step,)), True, step)
        for step in (("power", 10 ** 39), ("greatest", 10 ** 39), ("least", 10 ** 39), ("seen", 10 ** 39, 1),
                     ("seen", 1, 10 ** 39), ("share", 1, 10 ** 39), ("share", 10 ** 39, 10 ** 39)):
            self.assertIs(are_settings(COIN, (step,)), True, step)

    def test_share_has_the_lesser_number_first(self):
        for a, b in itertools.product(range(-1, 5), repeat=2):
            self.assertIs(are_settings(COIN, (("share", a, b),)), 1 <= a <= b, (a, b))
            self.assertIs(are_settings(COIN, (("seen", a, b),)), min(a, b) >= 1, (a, b))

    def test_banned_tokens(self):
        for tokens in ((), (0,), (2,), (0, 1, 2), (1, 2)):
            self.assertIs(are_settings(COIN, (("ban", tokens),)), True, tokens)
        for tokens in ((3,), (-1,), (True,), (0, True), (1, 1), (2, 1), [0], [], 0, None, "0", ("0",), ((0,),), (0, None)):
            self.assertIs(are_settings(COIN, (("ban", tokens),)), False, tokens)

    def test_tokens_of_another_size(self):
        step = (("ban", (2,)),)
        self.assertIs(are_settings(NET, step), False)
        self.assertIs(are_settings(COIN, step), True)
        self.assertIs(are_settings(FIVE, (("ban", (0, 1, 2, 3, 4)),)), True)
        self.assertIs(are_settings(COIN, (("ban", (0, 1, 2, 3, 4)),)), False)

    def test_forms(self):
        for step in (("power",), ("power", 1, 1), ("greatest",), ("greatest", 1, 1), ("share", 1), ("share", 1, 1, 1),
                     ("ban",), ("ban", 0), ("ban", 0, 1), ("ban", (), ()), ("seen", 1), ("seen", 1, 1, 1), ("least",),
                     ("least", 1, 1), ("Power", 1), ("power\n", 1), ("most", 1), (1, 1), (None, 1), (("power",), 1),
                     (["power"], 1), ["power", 1], "power", (), None, 1, ("power", (1,)), ("least", (1,)), ("ban", 1),
                     ("seen", (1,), 1), ("share", 1, (1,)), (1, "power"), ("end", 1, 1), ([], 1, 1), ({}, 1)):
            self.assertIs(are_settings(COIN, (step,)), False, step)
            self.assertIs(are_settings(COIN, (("power", 1), step)), False, step)
        for thing in ([], [("power", 1)], ("power", 1), None, "", 0, {}, (("power", 1), None), ((),)):
            self.assertIs(are_settings(COIN, thing), False, thing)

    def test_any_values(self):
        for model in (COIN, NET):
            for thing in (*ODD, *spoiled(EACH), *spoiled((("share", 2, 2), ("ban", ())))):
                self.assertIs(are_settings(model, thing), by_hand.are_right_settings(thing, model[1]), thing)

    def test_the_model_comes_first(self):
        for model in (*ODD, list(COIN), (*COIN[:1], True, *COIN[2:])):
            self.fails(BadModel, model, are_settings, model, ())
            self.fails(BadModel, model, are_settings, model, None)
            self.fails(BadModel, model, are_settings, thing=None, model=model)


class Steps(Case):

    def test_no_steps(self):
        self.same(next_weights(COIN, (), (1,), 0), (1, 2, 1))
        self.same(next_weights(LAST, (), (2, 1), 1), (0, 1, 3))
        self.same(next_weights(NET, (), (1,), 0), (4, 64))

    def test_power(self):
        self.same(weights_of((3, 1, 4, 0, 5), ("power", 1)), (3, 1, 4, 0, 5))
        self.same(weights_of((3, 1, 4, 0, 5), ("power", 2)), (9, 1, 16, 0, 25))
        self.same(weights_of((3, 1, 4, 0, 5), ("power", 3)), (27, 1, 64, 0, 125))
        self.same(weights_of((3, 1, 4, 0, 5), ("power", 4)), (81, 1, 256, 0, 625))
        self.same(weights_of((3, 1, 4, 0, 5), ("power", 2), ("power", 3)), (729, 1, 4096, 0, 15625))
        self.same(weights_of((0, 1000), ("power", 16)), (0, 1000 ** 16))
        for e in range(1, 40):
            self.same(weights_of((2, 3), ("power", e)), (2 ** e, 3 ** e))

    def test_greatest(self):
        for n, right in ((1, (0, 0, 0, 0, 5)), (2, (0, 0, 4, 0, 5)), (3, (3, 0, 4, 0, 5)), (4, (3, 1, 4, 0, 5)),
                         (5, (3, 1, 4, 1, 5)), (6, (3, 1, 4, 1, 5)), (10 ** 39, (3, 1, 4, 1, 5))):
            self.same(next_weights(FIVE, (("greatest", n),), (1,), 0), right)

    def test_greatest_of_equal_weights(self):
        for n, right in ((1, (2, 0, 0, 0)), (2, (2, 2, 0, 0)), (3, (2, 2, 2, 0)), (4, (2, 2, 2, 1))):
            self.same(weights_of((2, 2, 2, 1), ("greatest", n)), right)
        for n, right in ((1, (0, 0, 3, 0)), (2, (0, 0, 3, 3)), (3, (1, 0, 3, 3)), (4, (1, 1, 3, 3))):
            self.same(weights_of((1, 1, 3, 3), ("greatest", n)), right)

    def test_greatest_twice(self):
        self.same(weights_of((1, 2, 3, 4), ("greatest", 3), ("greatest", 2)), (0, 0, 3, 4))
        self.same(weights_of((1, 2, 3, 4), ("greatest", 1), ("greatest", 2)), (0, 0, 0, 4))

    def test_share(self):
        for a, b, right in ((1, 2, (0, 0, 4, 0, 5)), (5, 14, (0, 0, 0, 0, 5)), (6, 14, (0, 0, 4, 0, 5)),
                            (9, 14, (0, 0, 4, 0, 5)), (10, 14, (3, 0, 4, 0, 5)), (12, 14, (3, 0, 4, 0, 5)),
                            (13, 14, (3, 1, 4, 0, 5)), (14, 14, (3, 1, 4, 1, 5)), (1, 100, (0, 0, 0, 0, 5)),
                            (99, 100, (3, 1, 4, 1, 5))):
            self.same(next_weights(FIVE, (("share", a, b),), (1,), 0), right)

    def test_share_of_equal_weights(self):
        for a, right in ((1, (2, 0, 0, 0)), (2, (2, 2, 0, 0)), (3, (2, 2, 2, 0)), (4, (2, 2, 2, 2))):
            self.same(weights_of((2, 2, 2, 2), ("share", a, 4)), right)
        self.same(weights_of((1, 3, 3, 1), ("share", 3, 8)), (0, 3, 0, 0))
        self.same(weights_of((1, 3, 3, 1), ("share", 7, 8)), (1, 3, 3, 0))

    def test_share_of_all(self):
        for weights in ((1, 2, 3), (0, 5, 0), (7, 7, 0), (1, 0, 1000)):
            self.same(weights_of(weights, ("share", 3, 3)), weights)
            self.same(weights_of(weights, ("share", 1, 1), ("share", 100, 100)), weights)

    def test_ban(self):
        self.same(next_weights(FIVE, (("ban", ()),), (1,), 0), (3, 1, 4, 1, 5))
        self.same(next_weights(FIVE, (("ban", (0, 3)),), (1,), 0), (0, 1, 4, 0, 5))
        self.same(next_weights(FIVE, (("ban", (0, 3)), ("ban", (3, 4))), (1,), 0), (0, 1, 4, 0, 0))

    def test_seen(self):
        self.same(next_weights(FIVE, (("seen", 3, 2),), (2, 4, 2), 0), (6, 2, 12, 2, 15))
        self.same(next_weights(FIVE, (("seen", 3, 2),), (2, 4, 2), 2), (6, 2, 12, 2, 15))
        self.same(next_weights(FIVE, (("seen", 1, 7),), (1,), 1), (21, 1, 28, 7, 35))
        self.same(next_weights(FIVE, (("seen", 2, 1), ("seen", 5, 3)), (4,), 1), (9, 3, 12, 3, 50))
        self.same(next_weights(FIVE, (("seen", 4, 4),), (1, 2, 3, 4), 0), (12, 4, 16, 4, 20))

    def test_least(self):
        tokens = (1, 1, 1, 1)
        for m in range(7):
            for answered in range(5):
                right = (0, 2, 1) if answered < m else (1, 2, 1)
                self.same(next_weights(COIN, (("least", m),), tokens, answered), right)
        self.same(next_weights(COIN, (("least", 1), ("least", 3)), tokens, 2), (0, 2, 1))
        self.same(next_weights(COIN, (("least", 1), ("least", 2)), tokens, 2), (1, 2, 1))

    def test_steps_go_one_after_the_other(self):
        self.same(weights_of((3, 1, 4, 1, 5), ("power", 2), ("greatest", 2)), (0, 0, 16, 0, 25))
        self.same(weights_of((3, 1, 4, 1, 5), ("greatest", 2), ("seen", 9, 1), tokens=(1, 4)), (0, 0, 4, 0, 45))
        self.same(weights_of((3, 1, 4, 1, 5), ("seen", 9, 1), ("greatest", 2), tokens=(1, 4)), (0, 9, 0, 0, 45))
        self.same(weights_of((3, 4), ("power", 2), ("share", 3, 5)), (0, 16))
        self.same(weights_of((3, 4), ("share", 3, 5), ("power", 2)), (9, 16))
        self.same(weights_of((1, 2, 3), ("ban", (2,)), ("greatest", 1)), (0, 2, 0))
        self.same(weights_of((1, 2, 3), ("greatest", 1), ("ban", (2,))), (1, 0, 0))
        self.same(weights_of((5, 1), ("least", 1), ("share", 1, 9)), (0, 1))
        self.same(weights_of((5, 1), ("share", 1, 9), ("least", 1)), (1, 0))

    def test_nothing_is_left(self):
        self.same(weights_of((4, 2, 1), ("ban", (0, 1, 2))), (1, 0, 0))
        self.same(weights_of((4, 0, 0), ("ban", (0,))), (1, 0, 0))
        self.same(weights_of((4, 0, 0), ("least", 1)), (1, 0, 0))
        self.same(weights_of((0, 4, 0), ("ban", (1,))), (1, 0, 0))

    def test_nothing_is_left_in_the_middle(self):
        self.same(weights_of((4, 2, 1), ("ban", (0, 1, 2)), ("seen", 5, 3)), (3, 0, 0))
        self.same(weights_of((4, 2, 1), ("ban", (0, 1, 2)), ("power", 3), ("seen", 5, 3), ("share", 1, 2)), (3, 0, 0))
        self.same(weights_of((4, 2, 1), ("ban", (0, 1, 2)), ("least", 2)), (1, 0, 0))
        self.same(weights_of((4, 2, 1), ("greatest", 1), ("ban", (0,)), ("greatest", 2)), (1, 0, 0))
        self.same(weights_of((4, 2, 1), ("least", 2), ("ban", (1, 2)), ("seen", 1, 7)), (7, 0, 0))
        self.same(weights_of((4, 2, 1), ("ban", (0,)), ("ban", (1,)), ("ban", (2,)), ("seen", 1, 2)), (2, 0, 0))

    def test_as_by_hand(self):
        source = random.Random(31)
        for _ in range(1500):
            model = drawn.some_model(source, source.randint(2, 6))
            settings = tuple(drawn.some_step(source, model[1]) for _ in range(source.randint(0, 4)))
            tokens = drawn.some_prompt(source, model[1], 6)
            answered = source.randint(0, len(tokens))
            self.assertIs(are_settings(model, settings), True)
            found = next_weights(model, settings, tokens, answered)
            self.same(found, tuple(by_hand.next_weights(model, settings, tokens, answered)))
            self.assertTrue(all(map(is_int, found)) and min(found) >= 0 and sum(found) > 0)


class Errors(Case):

    def test_settings(self):
        for settings in ([], None, (("power", 0),), (("ban", (3,)),), ("power", 1), "", (("seen", True, 1),)):
            self.fails(BadSettings, settings, next_weights, COIN, settings, None, None)
            self.fails(BadSettings, settings, next_weights, COIN, settings, (1,), 0)
        for model in ODD:
            self.fails(BadModel, model, next_weights, model, None, None, None)

    def test_tokens(self):
        for tokens in ((), (0,), (1, 0), (3,), (-1,), (True,), (1, True), [1], [], None, 1, "1", ("1",), ((1,),), (1, None),
                       {}, (1, 10 ** 39)):
            self.fails(BadTokens, tokens, next_weights, COIN, (), tokens, None)
            self.fails(BadTokens, tokens, next_weights, COIN, (), tokens, 0)
        two = (2,)
        self.fails(BadTokens, two, next_weights, NET, (), two, 0)
        self.same(next_weights(COIN, (), two, 0), (1, 2, 1))

    def test_answered(self):
        for answered in (-1, 3, 4, True, False, None, "1", (1,), [1], 10 ** 39, -(10 ** 39), {}):
            self.fails(BadNumber, answered, next_weights, COIN, (), (1, 2), answered)
        for answered in (0, 1, 2):
            self.same(next_weights(COIN, (), (1, 2), answered), (1, 2, 1))

    def test_any_values(self):
        for tokens in (*ODD, *spoiled((1, 2))):
            if by_hand.are_right_tokens(tokens, 3) and tokens:
                self.same(next_weights(COIN, (), tokens, 0), (1, 2, 1))
            else:
                self.fails(BadTokens, tokens, next_weights, COIN, (), tokens, None)

    def test_by_name(self):
        self.same(are_settings(thing=EACH, model=COIN), True)
        self.same(next_weights(answered=0, tokens=(1,), settings=(("ban", (0,)),), model=COIN), (0, 2, 1))
        self.fails(BadSettings, None, next_weights, answered=None, tokens=None, settings=None, model=COIN)
        self.fails(BadNumber, None, next_weights, answered=None, tokens=(1,), settings=(), model=COIN)

    def test_beyond_the_limits(self):
        wide = ("window", 12, 0, (), tuple(range(12)))
        many = (("seen", 500, 300), ("power", 6)) + (("greatest", 11), ("share", 500, 1000), ("least", 500)) * 3
        found = next_weights(wide, many, (1,) * 60, 60)
        self.same(found, tuple(by_hand.next_weights(wide, many, (1,) * 60, 60)))


if __name__ == "__main__":
    unittest.main()
