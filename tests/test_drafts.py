"""Draftings, rests and single rounds [6.1] to [6.4]."""

import itertools
import random
import unittest

import by_hand
import drawn
from draftward.drafts import is_drafting, rest, round_of
from draftward.errors import BadAnswer, BadDrafting, BadModel, BadNumber, BadPrompt, BadSettings, BadTape, BadWeights
from draftward.errors import DraftError
from draftward.writer import next_weights
from samples import ODD, Case, spoiled

COIN = ("window", 3, 0, (), (1, 2, 1))
EVEN = ("window", 3, 0, (), (1, 1, 1))
NEVER = ("window", 3, 0, (), (0, 1, 1))
ROW = (EVEN, (), (("row", 2),))
MIXED = (EVEN, (("greatest", 2),), (("row", 2), ("several", 3)))
ONE = ((1,),)
NET = ("net", 2, 1, ((1,), (2,)), ((0,),), ((ONE, ONE, ONE, ONE),), ((0,), (1,)))
PAIR = ("window", 2, 0, (), (1, 1))

# The right arguments of round_of, in their order.
GIVEN = {"model": COIN, "settings": (), "drafting": ROW, "prompt": (1,), "most": 4, "answer": (), "tape": (1, 2, 0, 3, 0),
         "used": 0, "number": 0}
FAULTS = (
    (BadModel, "model", (None, [], list(COIN), "net", ("window", True, 0, (), (1, 2, 1)))),
    (BadSettings, "settings", (None, [], (("power", 0),), (("ban", (3,)),))),
    (BadDrafting, "drafting", ((), [], False, 0, "None", (EVEN, ()), (PAIR, (), (("row", 1),)), (EVEN, (), ()))),
    (BadPrompt, "prompt", (None, (), (0,), (3,), [1], (True,))),
    (BadNumber, "most", (None, -1, True, "4", (4,), -(10 ** 39))),
    (BadAnswer, "answer", (None, [], [1], (0,), (3,), (-1,), (True,), (1, 0), (1, 1, 1, 1), (1,) * 5, "1", 1, ((1,),))),
    (BadTape, "tape", (None, [], [1], (-1,), (True,), (1, "1"), 1, {})),
    (BadNumber, "used", (None, -1, True, False, "0", (0,))),
    (BadNumber, "number", (None, -1, True, False, "0", [0])),
)


class Draftings(Case):

    def test_right_ones(self):
        for drafting in (ROW, MIXED, (NEVER, (("power", 9), ("ban", (0, 2))), (("several", 1),) * 9),
                         (EVEN, (), (("row", 10 ** 39),))):
            self.assertIs(is_drafting(COIN, drafting), True, drafting)
        self.assertIs(is_drafting(PAIR, (NET, (), (("row", 1),))), True)

    def test_wrong_ones(self):
        for drafting in (None, (), [], ROW[:2], (*ROW, None), list(ROW), (PAIR, (), (("row", 1),)), (EVEN, (), ()),
                         (EVEN, (), (("row", 0),)), (EVEN, (), (("row", -1),)), (EVEN, (), (("row", True),)),
                         (EVEN, (), (("row", None),)), (EVEN, (), (("Row", 1),)), (EVEN, (), (("row",),)),
                         (EVEN, (), (("row", 1, 1),)), (EVEN, (), (["row", 1],)), (EVEN, (), [("row", 1)]),
                         (EVEN, (), ("row", 1)), (EVEN, (), (("row", 1), None)), (EVEN, None, (("row", 1),)),
                         (EVEN, [], (("row", 1),)), (EVEN, (("ban", (3,)),), (("row", 1),)), (None, (), (("row", 1),)),
                         (EVEN, (("power", 0),), (("row", 1),)), (EVEN, (), (("several", (1,)),)), (EVEN, (), ((1, "row"),)),
                         (EVEN, (), (([], 1),)), (EVEN, (), None), (EVEN, (), ())):
            self.assertIs(is_drafting(COIN, drafting), False, drafting)

    def test_any_values(self):
        for thing in (*ODD, *spoiled(MIXED)):
            self.assertIs(is_drafting(COIN, thing), by_hand.is_right_drafting(thing, 3), thing)

    def test_the_model_comes_first(self):
        for model in (*ODD, list(COIN)):
            self.fails(BadModel, model, is_drafting, model, ROW)
            self.fails(BadModel, model, is_drafting, thing=None, model=model)


class Rests(Case):

    def test_rest(self):
        self.same(rest((1, 2, 1), (1, 1, 1)), (0, 2, 0))
        self.same(rest((1, 1, 1), (1, 2, 1)), (1, 0, 1))
        self.same(rest((1, 2), (2, 4)), (0, 0))
        self.same(rest((0, 0, 7), (1, 1, 0)), (0, 0, 14))
        self.same(rest((3, 2, 5), (4, 1, 1)), (0, 2, 20))
        self.same(rest((1,), (9,)), (0,))
        self.same(rest(draft_weights=(1, 1), weights=(3, 1)), (2, 0))

    def test_as_by_hand(self):
        source = random.Random(61)
        for _ in range(500):
            size = source.randint(1, 6)
            one, other = drawn.some_weights(source, size, 9), drawn.some_weights(source, size, 9)
            self.same(rest(one, other), tuple(by_hand.rest(one, other)))

    def test_wrong_weights(self):
        for weights in ((), (0, 0), (-1, 2), (True, 1), [1, 2], None, "12", (1, None), {}):
            self.fails(BadWeights, weights, rest, weights, None)
            self.fails(BadWeights, weights, rest, weights, (1, 1))
            self.fails(BadWeights, weights, rest, (1, 1), weights)
        for draft_weights in ((1,), (1, 1, 1)):
            self.fails(BadWeights, draft_weights, rest, (1, 1), draft_weights)


class Rounds(Case):

    def test_those_of_the_document(self):
        self.same(round_of(COIN, (), ROW, (1,), 4, (), (1, 2, 0, 3, 0), 0, 0), ((1, 1), None, 5))
        self.same(round_of(COIN, (), ROW, (1,), 4, (), (1, 2, 0, 2, 3), 0, 0), ((1, 2, 2), None, 5))

    def test_without_a_drafting(self):
        for u, right in ((0, ((), "end", 3)), (1, ((1,), None, 3)), (2, ((1,), None, 3)), (3, ((2,), None, 3))):
            self.same(round_of(COIN, (), None, (1,), 3, (1,), (9, 9, u, 9), 2, 5), right)
        self.same(round_of(COIN, (), None, (1,), 2, (1,), (3,), 0, 0), ((2,), "most", 1))
        self.same(round_of(COIN, (), None, (1,), 1, (), (4,), 0, 7), ((), "end", 1))

    def test_a_row_drafts_no_more_than_the_answer_lacks(self):
        # Two drafted, two tried, both are kept; nothing more is drawn.
        self.same(round_of(COIN, (), ROW, (1,), 2, (), (1, 1, 0, 0, 3), 0, 0), ((1, 1), "most", 4))
        self.same(round_of(COIN, (), ROW, (1,), 4, (1, 1, 1), (1, 0, 3), 0, 0), ((1,), "most", 2))
        self.same(round_of(COIN, (), (EVEN, (), (("row", 9),)), (1,), 3, (), (1,) * 3 + (0,) * 9, 0, 0),
                  ((1, 1, 1), "most", 6))

    def test_a_row_that_is_kept_goes_on_by_one(self):
        self.same(round_of(COIN, (), ROW, (1,), 3, (), (1, 1, 0, 0, 3), 0, 0), ((1, 1, 2), "most", 5))
        self.same(round_of(COIN, (), ROW, (1,), 3, (), (1, 1, 0, 0, 4), 0, 0), ((1, 1), "end", 5))
        self.same(round_of(COIN, (), ROW, (1,), 4, (), (1, 1, 0, 0, 3), 0, 0), ((1, 1, 2), None, 5))

    def test_a_drafted_end_token(self):
        # The end token is drafted first: no further one is drafted, and it is tried.
        self.same(round_of(COIN, (), ROW, (1,), 4, (), (0, 2, 9), 0, 0), ((), "end", 2))
        self.same(round_of(COIN, (), ROW, (1,), 4, (), (0, 3, 1), 0, 0), ((1,), None, 3))
        self.same(round_of(COIN, (), ROW, (1,), 4, (), (1, 0, 0, 2, 9), 0, 0), ((1,), "end", 4))
        self.same(round_of(COIN, (), ROW, (1,), 4, (), (1, 0, 0, 3, 1), 0, 0), ((1, 1), None, 5))

    def test_a_token_is_kept_below_its_bound_alone(self):
        # The draw is below 4 * 1, and 2 is kept if its number is below 1 * 3.
        for number, right in ((0, (2, 1)), (1, (2, 1)), (2, (2, 1)), (3, (1,))):
            found = round_of(COIN, (), (EVEN, (), (("row", 1),)), (1,), 2, (), (2, number, 1), 0, 0)
            self.same(found, (right, "most" if len(right) == 2 else None, 3))

    def test_drafted_tokens_behind_one_that_is_not_kept_are_dropped(self):
        self.same(round_of(COIN, (), (EVEN, (), (("row", 3),)), (1,), 9, (), (2, 1, 2, 3, 0, 7), 0, 0), ((1,), None, 5))

    def test_the_rest_can_end_the_answer(self):
        end = ("window", 3, 0, (), (5, 1, 0))
        self.same(round_of(end, (), (NEVER, (), (("row", 2),)), (1,), 4, (), (1, 0, 0), 0, 0), ((), "end", 4))
        self.same(round_of(end, (), (NEVER, (), (("several", 1),)), (1,), 4, (), (1, 0, 0), 0, 0), ((), "end", 3))

    def test_several(self):
        plan = (EVEN, (), (("several", 2),))
        self.same(round_of(COIN, (), plan, (1,), 2, (), (2, 2), 0, 0), ((2,), None, 2))
        self.same(round_of(COIN, (), plan, (1,), 1, (), (2, 2), 0, 0), ((2,), "most", 2))
        # 2 is not kept; of the rest (0, 2, 0) 0 is tried and not kept, either; of its rest 1 is drawn.
        self.same(round_of(COIN, (), plan, (1,), 2, (), (2, 3, 0, 0, 0), 0, 0), ((1,), None, 5))
        self.same(round_of(COIN, (), plan, (1,), 2, (), (2, 3, 1, 0, 0), 0, 0), ((1,), None, 4))
        self.same(round_of(COIN, (), plan, (1,), 2, (), (0, 0), 0, 0), ((), "end", 2))

    def test_the_plan_by_the_number_of_the_round(self):
        drafting = (EVEN, (), (("row", 2), ("several", 1), ("row", 1)))
        tape = (1, 1, 0, 0, 3)
        for number in (0, 3, 6, 3 * 10 ** 38):
            self.same(round_of(COIN, (), drafting, (1,), 4, (), tape, 0, number), ((1, 1, 2), None, 5))
        for number in (1, 4, 3 * 10 ** 38 + 1):
            self.same(round_of(COIN, (), drafting, (1,), 4, (), tape, 0, number), ((1,), None, 2))
        for number in (2, 5):
            self.same(round_of(COIN, (), drafting, (1,), 4, (), tape, 0, number), ((1,), "end", 3))

    def test_drafted_tokens_count_as_tokens_of_the_answer(self):
        least = (("least", 1),)
        self.same(round_of(COIN, least, ROW, (1,), 4, (), (1, 0, 0, 0), 0, 0), ((1,), "end", 4))
        self.same(round_of(COIN, (), (EVEN, least, (("row", 2),)), (1,), 4, (), (0, 0, 0, 0), 0, 0), ((1,), "end", 4))

    def test_the_position_goes_on_behind_the_end_of_the_tape(self):
        self.same(round_of(COIN, (), ROW, (1,), 4, (), (), 7, 0), ((), "end", 9))
        self.same(round_of(COIN, (), None, (1,), 4, (), (1, 2), 2, 0), ((), "end", 3))
        self.same(round_of(COIN, (), None, (1,), 4, (), (1, 2), 10 ** 39, 0), ((), "end", 10 ** 39 + 1))

    def test_as_by_hand(self):
        source = random.Random(62)
        for _ in range(1500):
            model = drawn.some_model(source, source.randint(2, 4))
            size = model[1]
            settings = drawn.some_settings(source, size)
            drafting = drawn.some_drafting(source, size) if source.random() < 0.9 else None
            prompt = drawn.some_prompt(source, size)
            most = source.randint(1, 5)
            answer = tuple(source.randint(1, size - 1) for _ in range(source.randrange(most)))
            tape, used, number = drawn.some_tape(source), source.randint(0, 3), source.randint(0, 5)
            draws = by_hand.Draws(tape, used)
            p, q, plan = by_hand.writers_of(model, None, ("request", prompt, most, settings, drafting, None, tape))
            settled, reason = by_hand.round_of(p, q, plan, most, answer, draws, number)
            found = round_of(model, settings, drafting, prompt, most, answer, tape, used, number)
            self.same(found, (settled, reason, draws.used))

    def test_drafts_change_no_chance(self):
        for drafter, base, length in ((("row", 1), 12, 4), (("several", 1), 12, 3)):
            many = {}
            for tape in itertools.product(range(base), repeat=length):
                found = round_of(COIN, (), (EVEN, (), (drafter,)), (1,), 1, (), tape, 0, 0)[:2]
                many[found] = many.get(found, 0) + 1
            quarter = base ** length // 4
            self.assertEqual(many, {((), "end"): quarter, ((1,), "most"): 2 * quarter, ((2,), "most"): quarter})
        self.same(next_weights(COIN, (), (1,), 0), (1, 2, 1))


class Errors(Case):

    def test_each_comes_before_those_behind_it(self):
        for at, (error, name, wrong) in enumerate(FAULTS):
            for thing in wrong:
                later = {other: False for _, other, _ in FAULTS[at + 1:]}
                self.fails(error, thing, round_of, **{**GIVEN, name: thing})
                self.fails(error, thing, round_of, *{**GIVEN, **later, name: thing}.values())

    def test_none_is_a_drafting_here(self):
        self.same(round_of(**{**GIVEN, "drafting": None}), ((1,), None, 1))

    def test_most_0_leaves_no_round(self):
        self.fails(BadAnswer, GIVEN["answer"], round_of, **{**GIVEN, "most": 0})

    def test_any_values(self):
        for error, name, _ in FAULTS:
            for thing in spoiled(GIVEN[name]):
                try:
                    round_of(**{**GIVEN, name: thing})
                except DraftError as caught:
                    # An answer may be too long for a most that is right, and settings fit another model's size.
                    told = [value for value in {**GIVEN, name: thing}.values() if value is caught.thing]
                    self.assertTrue(told, thing)

    def test_beyond_the_limits(self):
        wide = ("window", 9, 0, (), (1,) * 9)
        drafting = (wide, (), (("row", 7), ("several", 9)) * 4)
        self.same(round_of(wide, (), drafting, (1,) * 30, 50, (8,) * 20, (3,) * 7, 0, 0), ((3,) * 7, "end", 15))
        self.same(round_of(wide, (), drafting, (1,) * 30, 50, (8,) * 20, (3,) * 7, 0, 1), ((3,), None, 2))


if __name__ == "__main__":
    unittest.main()
