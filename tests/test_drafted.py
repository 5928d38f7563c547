"""Answers that are written with drafts, their chances, gains and mean numbers of rounds [6.1], [6.5]."""

import random
import unittest
from fractions import Fraction

import by_hand
import by_hand_chances
import drawn
from draftward.drafts import drafted_chances, gain, mean_rounds, round_of, write_drafted
from draftward.errors import BadDrafting, BadModel, BadNumber, BadPrompt, BadSettings, BadTape, BadTokens
from draftward.writer import plain_chance, plain_chances, write_plain
from samples import ODD, Case

COIN = ("window", 3, 0, (), (1, 2, 1))
EVEN = ("window", 3, 0, (), (1, 1, 1))
NEVER = ("window", 3, 0, (), (0, 1, 1))
FIRST = ("window", 3, 0, (), (0, 1, 0))
SECOND = ("window", 3, 0, (), (0, 0, 1))
LAST = ("window", 3, 1, (((1,), (0, 1, 3)),), (1, 2, 1))
PAIR = ("window", 2, 0, (), (1, 1))
ONE = ((1,),)
NET = ("net", 3, 1, ((1,), (2,), (-1,)), ((0,), (1,)), ((ONE, ONE, ONE, ONE),), ((0,), (1,), (2,)))
ROW = (EVEN, (), (("row", 2),))
PLANS = ((("row", 1),), (("row", 2),), (("row", 4),), (("several", 1),), (("several", 2),), (("several", 4),),
         (("row", 2), ("several", 3)), (("several", 1), ("row", 3), ("row", 1)))

ASKING = {"model": COIN, "settings": (), "drafting": ROW, "prompt": (1,), "most": 3}
GAINED = {"model": COIN, "settings": (), "drafting": ROW, "tokens": (1, 2), "answered": 1}
FAULTS = (
    (BadModel, "model", (None, [], list(COIN), "net", ("window", True, 0, (), (1, 2, 1)), ("window", 3, 0, (), (1, 2)))),
    (BadSettings, "settings", (None, [], (("power", 0),), (("ban", (3,)),), (("least", True),), [("least", 1)])),
    (BadDrafting, "drafting", ((), [], False, 0, "None", (EVEN, ()), (PAIR, (), (("row", 1),)), (EVEN, (), ()),
                               (EVEN, (), (("row", True),)), (EVEN, (), (("row", 0),)), (EVEN, [], (("row", 1),)), list(ROW))),
    (BadPrompt, "prompt", (None, (), (0,), (3,), [1], (True,), (1, 0), "1")),
    (BadNumber, "most", (None, -1, True, False, "4", (4,), -(10 ** 39))),
)
TAPES = (None, [], [1], (-1,), (True,), (1, "1"), (1, (1,)), 1, {}, "12")


def some_asking(source, most=3):
    """Return (model, settings, drafting, prompt, most), drafting perhaps None."""
    size = source.randint(2, 4)
    drafting = drawn.some_drafting(source, size) if source.random() < 0.9 else None
    return (drawn.some_model(source, size), drawn.some_settings(source, size), drafting, drawn.some_prompt(source, size),
            source.randint(0, most))


def writers_of(model, settings, drafting, prompt, most):
    return by_hand.writers_of(model, None, ("request", prompt, most, settings, drafting, None, ()))


class Gains(Case):

    def test_that_of_the_document(self):
        self.same(gain(COIN, (), ROW, (1,), 0), (5, 6))

    def test_a_draft_that_equals_the_model(self):
        for model in (COIN, LAST, NET):
            for tokens in ((1,), (2,), (1, 2, 1)):
                self.same(gain(model, (), (model, (), (("row", 1),)), tokens, 0), (1, 1))
        # Only the shares count, not the sums.
        self.same(gain(COIN, (), (COIN, (("seen", 7, 7),), (("several", 3),)), (1,), 0), (1, 1))

    def test_a_draft_that_never_fits(self):
        self.same(gain(FIRST, (), (SECOND, (), (("row", 1),)), (1,), 0), (0, 1))
        self.same(gain(COIN, (("ban", (0, 2)),), (COIN, (("ban", (1,)),), (("row", 1),)), (1,), 0), (0, 1))

    def test_weights_0_here_and_there(self):
        self.same(gain(COIN, (), (NEVER, (), (("row", 1),)), (1,), 0), (3, 4))
        self.same(gain(NEVER, (), (COIN, (), (("row", 1),)), (1,), 0), (3, 4))

    def test_tokens_and_answered_count_for_both(self):
        self.same([gain(LAST, (), ROW, tokens, 0) for tokens in ((1,), (2,), (2, 1))], [(7, 12), (5, 6), (7, 12)])
        self.same([gain(EVEN, (), (LAST, (), (("row", 1),)), tokens, 0) for tokens in ((1,), (2,))], [(7, 12), (5, 6)])
        least = (("least", 1),)
        self.same([gain(COIN, least, ROW, (1, 2), answered) for answered in (0, 1, 2)], [(2, 3), (5, 6), (5, 6)])
        self.same([gain(COIN, (), (COIN, least, (("row", 1),)), (1, 2), answered) for answered in (0, 1, 2)],
                  [(3, 4), (1, 1), (1, 1)])

    def test_it_is_the_chance_that_a_round_keeps_the_token(self):
        many = 0
        # The token 2 is drafted with 1 of 3, and kept with 3 numbers of 4; the others are always kept.
        for drafted in range(3):
            for number in range(12):
                settled, reason, used = round_of(COIN, (), (EVEN, (), (("several", 1),)), (1,), 2, (), (drafted, number), 0, 0)
                many += used == 2
        self.assertEqual(Fraction(many, 36), Fraction(5, 6))

    def test_as_by_hand(self):
        source = random.Random(63)
        for _ in range(300):
            model, settings, drafting, prompt, _ = some_asking(source)
            if drafting is not None:
                answered = source.randint(0, len(prompt))
                p = by_hand.next_weights(model, settings, prompt, answered)
                q = by_hand.next_weights(drafting[0], drafting[1], prompt, answered)
                found = gain(model, settings, drafting, prompt, answered)
                self.same(found, by_hand.pair(sum(min(Fraction(a, sum(p)), Fraction(b, sum(q))) for a, b in zip(p, q))))
                if sum(p) * max(q) < 10 ** 4:
                    self.same(found, by_hand_chances.gain(p, q))

    def test_errors(self):
        faults = (*FAULTS[:2], (BadDrafting, "drafting", (None, *FAULTS[2][2])),
                  (BadTokens, "tokens", (None, (), [1], (0,), (3,), (True,), (1, 0), (-1,), "1", 1)),
                  (BadNumber, "answered", (None, -1, 3, True, False, "0", (0,), 10 ** 39)))
        for at, (error, name, wrong) in enumerate(faults):
            for thing in wrong:
                later = {other: "Wrong" for _, other, _ in faults[at + 1:]}
                self.fails(error, thing, gain, **{**GAINED, name: thing})
                self.fails(error, thing, gain, *{**GAINED, **later, name: thing}.values())


class Writing(Case):

    def test_that_of_the_document(self):
        self.same(write_drafted(COIN, (), None, (1,), 2, (3, 1)), ((2, 1), "most", 2, 2))

    def test_most_0_has_no_round(self):
        for drafting in (None, ROW, (EVEN, (), (("several", 3),))):
            for tape in ((), (1, 2)):
                self.same(write_drafted(COIN, (), drafting, (1,), 0, tape), ((), "most", 0, 0))

    def test_without_a_drafting_it_is_the_plain_writer(self):
        source = random.Random(64)
        for _ in range(300):
            model, settings, _, prompt, most = some_asking(source, 6)
            tape = drawn.some_tape(source)
            answer, reason, used = write_plain(model, settings, prompt, most, tape)
            self.same(write_drafted(model, settings, None, prompt, most, tape), (answer, reason, used, used))

    def test_the_rounds_go_on_one_after_the_other(self):
        drafting = (EVEN, (), (("row", 2), ("several", 1)))
        tape = (1, 1, 0, 0, 3, 2, 2, 2, 3, 0, 1, 1, 1, 0, 0, 0)
        self.same(write_drafted(COIN, (("least", 8),), drafting, (1,), 8, tape), ((1, 1, 1, 2, 2, 1, 1, 1), "most", 17, 5))

    def test_plans_of_three_drafters(self):
        # All that is drafted is kept, so the three settle 1, 2 and 3 tokens.
        one, two, three = ("several", 1), ("row", 1), ("row", 2)
        for plan, rounds in (((one, two, three), 5), ((three, one, two), 4), ((two, three, one), 5), ((three, two, one), 4)):
            found = write_drafted(FIRST, (), (FIRST, (), plan), (1,), 9, ())
            self.same((found[0], found[1], found[3]), ((1,) * 9, "most", rounds))

    def test_a_tape_that_ends_within_a_round(self):
        # Behind its end all draws are 0: the end token is drafted, tried and kept.
        self.same(write_drafted(COIN, (), ROW, (1,), 4, ()), ((), "end", 2, 1))
        self.same(write_drafted(COIN, (), ROW, (1,), 4, (1,)), ((1,), "end", 4, 1))
        self.same(write_drafted(COIN, (), ROW, (1,), 4, (1, 1)), ((1, 1), "end", 5, 1))
        self.same(write_drafted(COIN, (), ROW, (1,), 4, (1, 1, 0, 0, 3)), ((1, 1, 2), "end", 7, 2))

    def test_rounds_of_round_of(self):
        source = random.Random(65)
        for _ in range(300):
            model, settings, drafting, prompt, most = given = some_asking(source, 5)
            tape = drawn.some_tape(source)
            answer, reason, used, number = (), None if most else "most", 0, 0
            while reason is None:
                settled, reason, used = round_of(*given, answer, tape, used, number)
                answer += settled
                number += 1
            self.same(write_drafted(*given, tape), (answer, reason, used, number))

    def test_as_by_hand(self):
        source = random.Random(66)
        for _ in range(400):
            model, settings, drafting, prompt, most = given = some_asking(source, 6)
            tape = drawn.some_tape(source)
            if most:
                right = by_hand.course(model, None, ("request", prompt, most, settings, drafting, None, tape))[1]
                self.same(write_drafted(*given, tape), right)

    def test_beyond_the_limits(self):
        wide = ("window", 9, 0, (), (1,) * 9)
        drafting = (wide, (), (("row", 7), ("several", 9)) * 4)
        self.same(write_drafted(wide, (), drafting, (1,) * 30, 50, (3,) * 160)[:2], ((3,) * 50, "most"))


class Chances(Case):

    def check(self, *given):
        """Check that the chances with the drafting are the plain ones, and both and the mean those by hand."""
        model, settings, _, prompt, most = given
        p, q, plan = writers_of(*given)
        right, mean, _, _ = by_hand_chances.all_runs(p, q, plan, most)
        self.same(drafted_chances(*given), right)
        self.same(right, plain_chances(model, settings, prompt, most))
        self.same(mean_rounds(*given), mean)

    def test_that_of_the_document(self):
        self.same(drafted_chances(COIN, (), ROW, (1,), 1), ((((), "end"), (1, 4)), (((1,), "most"), (1, 2)),
                                                            (((2,), "most"), (1, 4))))
        self.same(mean_rounds(COIN, (), None, (1,), 1), (1, 1))

    def test_most_0(self):
        for drafting in (None, ROW):
            self.same(drafted_chances(COIN, (), drafting, (1,), 0), ((((), "most"), (1, 1)),))
            self.same(mean_rounds(COIN, (), drafting, (1,), 0), (0, 1))

    def test_every_plan(self):
        for plan in PLANS:
            for draft in (COIN, EVEN, NEVER, FIRST, LAST, NET):
                for most in (1, 2, 3):
                    self.check(COIN, (), (draft, (), plan), (1,), most)
                    self.check(LAST, (("least", 1),), (draft, (("seen", 3, 1),), plan), (2,), most)

    def test_weights_0_here_and_there(self):
        for plan in PLANS:
            self.check(NEVER, (), (EVEN, (), plan), (1,), 3)
            self.check(FIRST, (), (SECOND, (), plan), (1,), 3)
            self.check(SECOND, (("least", 2),), (COIN, (("ban", (2,)),), plan), (1,), 3)

    def test_as_by_hand(self):
        source = random.Random(67)
        for _ in range(250):
            self.check(*some_asking(source))

    def test_an_outcome_whose_chance_is_0_is_left_out(self):
        for plan in PLANS:
            found = drafted_chances(NEVER, (), (EVEN, (), plan), (1,), 2)
            self.same(found, tuple((((a, b), "most"), (1, 4)) for a in (1, 2) for b in (1, 2)))
        self.same(plain_chance(NEVER, (), (1,), 2, ((), "end")), (0, 1))

    def test_all_is_kept_of_a_draft_that_equals_the_model(self):
        # A row of n is kept whole, and one more token follows where the answer lacks it.
        for n, mean in ((1, (2, 1)), (2, (1, 1)), (3, (1, 1)), (4, (1, 1))):
            drafting = (NEVER, (), (("row", n),))
            self.same(mean_rounds(NEVER, (), drafting, (1,), n + 1), (1, 1))
            self.same(mean_rounds(NEVER, (), drafting, (1,), 3), mean)
        self.same(mean_rounds(NEVER, (), (NEVER, (), (("several", 3),)), (1,), 3), (3, 1))

    def test_the_number_of_the_round_counts_modulo_the_number_of_drafters(self):
        # Rows settle two tokens, and one of several settles one.
        for plan, mean in (((("row", 1), ("several", 1)), (2, 1)), ((("several", 1), ("row", 1)), (2, 1)),
                           ((("several", 1),) * 2 + (("row", 9),), (3, 1)), ((("several", 1),), (3, 1))):
            self.same(mean_rounds(NEVER, (), (NEVER, (), plan), (1,), 3), mean)
        for plan, mean in (((("row", 1), ("several", 1)), (3, 1)), ((("several", 1), ("row", 1)), (4, 1))):
            self.same(mean_rounds(FIRST, (), (FIRST, (), plan), (1,), 5 if plan[0][0] == "row" else 6), mean)

    def test_a_mean_of_rounds_without_a_drafting(self):
        # Each round ends the answer with 1 of 4.
        self.same([mean_rounds(COIN, (), None, (1,), most) for most in (1, 2, 3)], [(1, 1), (7, 4), (37, 16)])
        self.same(mean_rounds(COIN, (("least", 3),), None, (1,), 3), (3, 1))

    def test_a_better_draft_needs_fewer_rounds(self):
        means = [Fraction(*mean_rounds(NEVER, (), (draft, (), (("row", 3),)), (1,), 3)) for draft in (NEVER, COIN, EVEN)]
        self.assertEqual(means, sorted(means))
        self.assertEqual(means[0], 1)
        self.assertLess(means[0], means[1])

    def test_at_the_limits(self):
        for size, plan in ((5, (("row", 3), ("several", 3))), (4, (("several", 4), ("row", 4))), (2, (("row", 4),) * 4)):
            source = random.Random(size)
            weights = [tuple(source.randint(0, 1000) for _ in range(size)) for _ in range(4)]
            model = ("window", size, 1, (((1,), weights[0]),), weights[1])
            draft = ("window", size, 1, (((1,), weights[2]),), weights[3])
            settings = (("power", 4), ("seen", 100, 99))
            given = (model, settings, (draft, (("greatest", 4),), plan), (1,) * 12, 3)
            self.same(drafted_chances(*given), plain_chances(model, settings, (1,) * 12, 3))

    def test_longer_answers_than_the_limit(self):
        self.same(drafted_chances(COIN, (), ROW, (1,), 5), plain_chances(COIN, (), (1,), 5))
        self.same(drafted_chances(COIN, (), (EVEN, (), (("several", 5),)), (1,), 4), plain_chances(COIN, (), (1,), 4))

    def test_chances_add_up_to_1(self):
        for plan in PLANS:
            found = drafted_chances(LAST, (("power", 2),), (COIN, (), plan), (2,), 3)
            self.assertEqual(sum(Fraction(*chance) for _, chance in found), 1)
            self.assertEqual(sorted(found), list(found))


class Errors(Case):

    def test_each_comes_before_those_behind_it(self):
        for function, more in ((write_drafted, {"tape": None}), (drafted_chances, {}), (mean_rounds, {})):
            for at, (error, name, wrong) in enumerate(FAULTS):
                for thing in wrong:
                    later = {other: "Wrong" for _, other, _ in FAULTS[at + 1:]}
                    self.fails(error, thing, function, **{**ASKING, **later, **more, name: thing})
                    self.fails(error, thing, function, *{**ASKING, name: thing, **more}.values())

    def test_tapes(self):
        for tape in TAPES:
            self.fails(BadTape, tape, write_drafted, **ASKING, tape=tape)
            self.fails(BadTape, tape, write_drafted, **{**ASKING, "most": 0}, tape=tape)

    def test_odd_draftings(self):
        for drafting in ODD:
            if drafting is not None:
                self.fails(BadDrafting, drafting, write_drafted, **{**ASKING, "drafting": drafting}, tape=())
                self.fails(BadDrafting, drafting, drafted_chances, **{**ASKING, "drafting": drafting})
                self.fails(BadDrafting, drafting, mean_rounds, **{**ASKING, "drafting": drafting})
            self.fails(BadDrafting, drafting, gain, **{**GAINED, "drafting": drafting})


if __name__ == "__main__":
    unittest.main()
