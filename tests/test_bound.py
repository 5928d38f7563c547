"""Answers that are bound by grammars: mask weights, writers, chances, certificates and drafts [7.3], [7.4], [7.5]."""

import itertools
import random
import unittest
from fractions import Fraction

import by_hand
import by_hand_chances
import drawn
from draftward.drafts import write_drafted
from draftward.errors import BadAnswer, BadDrafting, BadGrammar, BadModel, BadNumber, BadPrompt, BadSettings, BadSize
from draftward.errors import BadTape, BadVocabulary, DraftError, NoFit
from draftward.grammars import alone, bound_chances, bound_weights, ending, judge_mask, mask_holds, mask_weights
from draftward.grammars import masked_chances, round_bound, write_bound, write_masked
from draftward.writer import next_weights, plain_chance, plain_chances, write_plain
from samples import ODD, Case, spoiled

COIN = ("window", 3, 0, (), (1, 2, 1))
EVEN = ("window", 3, 0, (), (1, 1, 1))
NEVER = ("window", 3, 0, (), (0, 2, 1))
LAST = ("window", 3, 1, (((1,), (0, 1, 3)),), (1, 2, 1))
TWO = ("window", 2, 0, (), (1, 1))
LETTERS = ("vocabulary", "ab", ())
MERGED = ("vocabulary", "ab", ((1, 2),))
ENDS = ("grammar", 2, 0, (1,), ((0, "a", 0), (0, "b", 1)))
ALL = ("grammar", 1, 0, (0,), ((0, "a", 0), (0, "b", 0)))
NONE = ("grammar", 1, 0, (), ((0, "a", 0), (0, "b", 0)))
NOTHING = ("grammar", 1, 0, (0,), ())
# An even number of b; the final state is left again and again.
EVENLY = ("grammar", 2, 0, (0,), ((0, "a", 0), (0, "b", 1), (1, "a", 1), (1, "b", 0)))
ROW = (EVEN, (), (("row", 2),))
MIXED = (EVEN, (("greatest", 2),), (("row", 2), ("several", 3)))

GIVEN = {"model": COIN, "settings": (), "vocabulary": LETTERS, "grammar": ENDS, "prompt": (1,), "most": 3}
FAULTS = (
    (BadModel, "model", (None, [], list(COIN), "net", ("window", 3, 0, (), (1, True, 1)))),
    (BadSettings, "settings", (None, [], (("power", 0),), (("ban", (3,)),), (("least", False),))),
    (BadVocabulary, "vocabulary", (None, [], list(LETTERS), ("vocabulary", "aa", ()), ("vocabulary", "ab", ((True, 2),)))),
    (BadGrammar, "grammar", (None, [], list(ENDS), (*ENDS[:3], (2,), ENDS[4]), (*ENDS[:3], (True,), ENDS[4]), ENDS[:4])),
    (BadPrompt, "prompt", (None, (), (0,), (3,), [1], (True,))),
    (BadNumber, "most", (None, -1, True, False, "4", (4,))),
)
MORE = {"drafting": ROW, "tape": (1, 2, 3), "answer": (), "thing": ("exact",)}
TAPES = (None, [], [1], (-1,), (True,), 1, "12", ((1,),))
DRAFTINGS = ((), [], False, 0, (EVEN, (), ()), (TWO, (), (("row", 1),)), (EVEN, (), (("row", True),)), list(ROW))
ANSWERS = (None, [], [1], (0,), (3,), (-1,), (True,), (1, 0), (1,) * 3, (1,) * 4, "1", 1)

# Each function with the names of its parameters behind the six.
FUNCTIONS = ((mask_weights, ("answer",)), (bound_weights, ("answer",)), (write_bound, ("drafting", "tape")),
             (write_masked, ("tape",)), (bound_chances, ()), (masked_chances, ()), (judge_mask, ()), (mask_holds, ("thing",)))


def given_for(names, **other):
    return {**GIVEN, **{name: MORE[name] for name in names}, **other}


def some_asking(source, most=3):
    """Return (model, settings, vocabulary, grammar, prompt, most), which some outcome may fit or not."""
    size = source.randint(2, 4)
    return (drawn.some_model(source, size), drawn.some_settings(source, size), drawn.VOCABULARIES[size],
            drawn.some_grammar(source), drawn.some_prompt(source, size), source.randint(0, most))


def some_fitting(source, most=3):
    while True:
        given = some_asking(source, most)
        if ending(*given, ()) != (0, 1):
            return given


def without_grammar(given):
    model, settings, _, _, prompt, most = given
    return model, settings, prompt, most


class Masks(Case):

    def test_those_of_the_document(self):
        self.same(mask_weights(COIN, (), LETTERS, ENDS, (1,), 2, ()), (0, 2, 1))

    def test_next_weights_where_bound_ones_are_not_0(self):
        self.same(mask_weights(COIN, (("seen", 6, 6),), LETTERS, ALL, (1,), 2, ()), (6, 12, 6))
        self.same(bound_weights(COIN, (("seen", 6, 6),), LETTERS, ALL, (1,), 2, ()), (1, 2, 1))
        self.same(mask_weights(COIN, (), LETTERS, ENDS, (1,), 3, ()), (0, 2, 1))
        self.same(mask_weights(COIN, (), LETTERS, ENDS, (1,), 3, (1, 1)), (0, 0, 1))
        self.same(mask_weights(COIN, (), LETTERS, ENDS, (1,), 3, (2,)), (1, 0, 0))
        self.same(mask_weights(COIN, (), LETTERS, EVENLY, (1,), 3, (2,)), (0, 2, 1))
        self.same(mask_weights(COIN, (), LETTERS, EVENLY, (1,), 3, (2, 1)), (0, 0, 1))

    def test_a_token_that_never_comes_has_the_weight_0(self):
        self.same(mask_weights(NEVER, (), LETTERS, ALL, (1,), 3, ()), (0, 2, 1))
        self.same(mask_weights(COIN, (("ban", (1,)),), LETTERS, ALL, (1,), 3, ()), (1, 0, 1))

    def test_as_by_hand(self):
        source = random.Random(73)
        for _ in range(100):
            given = model, settings, vocabulary, grammar, prompt, most = some_asking(source)
            after = by_hand.plain(model, settings, prompt)
            right = by_hand_chances.masked(after, vocabulary, grammar, most)
            for answer in by_hand.answers(model[1], most - 1) if most else ():
                if by_hand.ending(after, vocabulary, grammar, most, answer):
                    self.same(mask_weights(*given, answer), tuple(right(answer)))
                    self.same(next_weights(model, settings, prompt + answer, len(answer)), tuple(after(answer)))
                else:
                    self.no_fit(mask_weights, *given, answer)

    def no_fit(self, function, *args):
        with self.assertRaises(DraftError) as caught:
            function(*args)
        self.assertIs(type(caught.exception), NoFit)


class Chances(Case):

    def test_those_of_the_document(self):
        right = ((((1, 2), "most"), (2, 3)), (((2,), "end"), (1, 3)))
        self.same(bound_chances(COIN, (), LETTERS, ENDS, (1,), 2), right)
        self.same(masked_chances(COIN, (), LETTERS, ENDS, (1,), 2), right)

    def test_a_grammar_that_every_outcome_fits(self):
        for model in (COIN, NEVER, LAST):
            for most in range(4):
                plain = plain_chances(model, (), (1,), most)
                self.same(bound_chances(model, (), LETTERS, ALL, (1,), most), plain)
                self.same(masked_chances(model, (), LETTERS, ALL, (1,), most), plain)
                self.same(judge_mask(model, (), LETTERS, ALL, (1,), most), ("exact",))

    def test_a_grammar_that_one_outcome_fits(self):
        self.same(bound_chances(COIN, (), LETTERS, NOTHING, (1,), 3), ((((), "end"), (1, 1)),))
        self.same(masked_chances(COIN, (), LETTERS, NOTHING, (1,), 3), ((((), "end"), (1, 1)),))
        self.same(judge_mask(COIN, (), LETTERS, NOTHING, (1,), 3), ("exact",))

    def test_most_0(self):
        for function in (bound_chances, masked_chances):
            self.same(function(COIN, (), LETTERS, ALL, (1,), 0), ((((), "most"), (1, 1)),))
        self.same(judge_mask(COIN, (), LETTERS, ALL, (1,), 0), ("exact",))
        self.same(write_bound(COIN, (), LETTERS, ALL, (1,), 0, ROW, (1,)), ((), "most", 0, 0))
        self.same(write_masked(COIN, (), LETTERS, ALL, (1,), 0, (1,)), ((), "most", 0))

    def test_a_final_state_that_is_left_again(self):
        # Of 2 tokens: nothing, one a, two of one kind; with the chances 1/4, 2/16 ended, 4/16 and 1/16 at most.
        found = bound_chances(COIN, (), LETTERS, EVENLY, (1,), 2)
        self.same(found, ((((), "end"), (4, 11)), (((1,), "end"), (2, 11)), (((1, 1), "most"), (4, 11)),
                          (((2, 2), "most"), (1, 11))))

    def test_they_are_the_plain_ones_divided_by_the_ending(self):
        source = random.Random(74)
        for _ in range(150):
            given = model, settings, vocabulary, grammar, prompt, most = some_fitting(source)
            whole = Fraction(*ending(*given, ()))
            found = bound_chances(*given)
            plain = [(outcome, chance) for outcome, chance in plain_chances(*without_grammar(given))
                     if by_hand.fits(vocabulary, grammar, outcome[0])]
            self.same([outcome for outcome, _ in found], [outcome for outcome, _ in plain])
            for (outcome, chance), (_, right) in zip(found, plain):
                self.same(chance, by_hand.pair(Fraction(*right) / whole))
            self.same([outcome for outcome, _ in masked_chances(*given)], [outcome for outcome, _ in found])

    def test_as_by_hand(self):
        source = random.Random(75)
        for _ in range(100):
            given = model, settings, vocabulary, grammar, prompt, most = some_fitting(source)
            after = by_hand.plain(model, settings, prompt)
            bound = by_hand.bound(after, vocabulary, grammar, most)
            self.same(bound_chances(*given), walked(bound, most))
            self.same(masked_chances(*given), walked(by_hand_chances.masked(after, vocabulary, grammar, most), most))


def walked(after, most, answer=(), chance=Fraction(1)):
    """Return the sorted pairs of outcomes and chances of a writer whose weights are known only where it can come."""
    if len(answer) == most:
        return (((answer, "most"), by_hand.pair(chance)),)
    found = []
    weights = after(answer)
    for token, weight in enumerate(weights):
        share = chance * Fraction(weight, sum(weights))
        if share and token == 0:
            found.append(((answer, "end"), by_hand.pair(share)))
        elif share:
            found.extend(walked(after, most, (*answer, token), share))
    return tuple(sorted(found))


class Certificates(Case):

    def test_those_of_the_document(self):
        self.same(judge_mask(COIN, (), LETTERS, ENDS, (1,), 2), ("exact",))
        self.same(judge_mask(COIN, (), LETTERS, ENDS, (1,), 3), ("unlike", ((1, 1, 2), "most"), ((2,), "end")))

    def test_the_very_two_outcomes(self):
        # The first three outcomes that fit are (1, 1, 2), (1, 2) and (2,); (1, 2) has the same share as the first.
        masked = dict(masked_chances(COIN, (), LETTERS, ENDS, (1,), 3))
        shares = [Fraction(*masked[outcome]) / Fraction(*plain_chance(COIN, (), (1,), 3, outcome)) for outcome in masked]
        self.assertEqual(list(masked), [((1, 1, 2), "most"), ((1, 2), "end"), ((2,), "end")])
        self.assertEqual(shares[0], shares[1])
        self.assertNotEqual(shares[0], shares[2])

    def test_outcomes_that_never_come_do_not_count(self):
        # With ("ban", (1,)) behind the model only (2,) fits.
        self.same(judge_mask(COIN, (("ban", (1,)),), LETTERS, ENDS, (1,), 3), ("exact",))
        # (1, 1, 2) fits, but never comes: 1 follows 1 never.
        model = ("window", 3, 1, (((1,), (1, 0, 1)),), (1, 1, 1))
        self.assertIs(by_hand.fits(LETTERS, ENDS, (1, 1, 2)), True)
        self.same(judge_mask(model, (), LETTERS, ENDS, (2,), 3), ("unlike", ((1, 2), "end"), ((2,), "end")))

    def test_as_by_hand(self):
        source = random.Random(78)
        seen = {"exact": 0, "unlike": 0}
        for _ in range(200):
            given = model, settings, vocabulary, grammar, prompt, most = some_fitting(source)
            after = by_hand.plain(model, settings, prompt)
            right = by_hand_chances.mask_certificate(after, vocabulary, grammar, model[1], most)
            seen[right[0]] += 1
            self.same(judge_mask(*given), right)
            self.assertIs(mask_holds(*given, right), True)
        self.assertGreater(min(seen.values()), 20)

    def test_it_tells_whether_the_chances_are_the_same(self):
        source = random.Random(79)
        for _ in range(150):
            given = some_fitting(source)
            self.assertEqual(judge_mask(*given) == ("exact",), masked_chances(*given) == bound_chances(*given))

    def test_only_the_certificate_holds(self):
        for most in (2, 3):
            given = {**GIVEN, "most": most}
            right = judge_mask(**given)
            for thing in (*ODD, *spoiled(right), *spoiled(("exact",)), ("exact", None), "exact", ["exact"], list(right),
                          ("unlike", ((1, 2), "end"), ((2,), "end")), ("unlike", ((1, 1, 2), "most"), ((1, 2), "end")),
                          ("unlike", ((2,), "end"), ((1, 1, 2), "most")), ("unlike", ((True, 1, 2), "most"), ((2,), "end"))):
                self.assertIs(mask_holds(**given, thing=thing), repr(thing) == repr(right), thing)

    def test_nothing_holds_if_nothing_fits(self):
        for grammar, settings in ((NONE, ()), (ENDS, (("ban", (2,)),))):
            given = {**GIVEN, "grammar": grammar, "settings": settings}
            for thing in (("exact",), ("unlike", ((), "end"), ((1,), "end")), ("none",), None, (), False):
                self.assertIs(mask_holds(**given, thing=thing), False)


class Writers(Case):

    def test_a_bound_answer(self):
        self.same(write_bound(COIN, (), LETTERS, ENDS, (1,), 2, None, (2, 0)), ((2,), "end", 2, 2))
        self.same(write_bound(COIN, (), LETTERS, ENDS, (1,), 2, None, ()), ((1, 2), "most", 2, 2))
        self.same(write_bound(COIN, (), LETTERS, ENDS, (1,), 3, None, (2, 0)), ((1, 1, 2), "most", 3, 3))
        self.same(write_bound(COIN, (), LETTERS, ENDS, (1,), 3, None, (3, 0)), ((2,), "end", 2, 2))

    def test_a_masked_answer(self):
        self.same(write_masked(COIN, (), LETTERS, ENDS, (1,), 3, (1, 2, 0)), ((1, 2), "end", 3))
        self.same(write_masked(COIN, (), LETTERS, ENDS, (1,), 3, ()), ((1, 1, 2), "most", 3))
        self.same(write_masked(COIN, (), LETTERS, ENDS, (1,), 3, (2, 5)), ((2,), "end", 2))

    def test_a_drafted_bound_answer(self):
        # The end token is drafted, which does not fit; then 2 and 1, of which 1 does not fit.
        self.same(write_bound(COIN, (), LETTERS, ENDS, (1,), 2, ROW, (0, 0, 0)), ((1, 2), "most", 6, 2))
        self.same(write_bound(COIN, (), LETTERS, ENDS, (1,), 2, ROW, (2, 1, 0, 0, 0)), ((2,), "end", 5, 1))

    def test_a_grammar_that_every_outcome_fits_changes_nothing(self):
        source = random.Random(80)
        for _ in range(200):
            tape, most = drawn.some_tape(source), source.randint(0, 4)
            drafting = source.choice((None, drawn.some_drafting(source, 3)))
            self.same(write_bound(LAST, (), LETTERS, ALL, (2,), most, drafting, tape),
                      write_drafted(LAST, (), drafting, (2,), most, tape))
            self.same(write_masked(LAST, (), LETTERS, ALL, (2,), most, tape), write_plain(LAST, (), (2,), most, tape))

    def test_rounds_of_round_bound(self):
        source = random.Random(81)
        for _ in range(150):
            given = some_fitting(source)
            drafting = source.choice((None, drawn.some_drafting(source, given[0][1])))
            tape = drawn.some_tape(source)
            answer, reason, used, number = (), None if given[5] else "most", 0, 0
            while reason is None:
                settled, reason, used = round_bound(*given, drafting, answer, tape, used, number)
                answer += settled
                number += 1
            self.same(write_bound(*given, drafting, tape), (answer, reason, used, number))
            if given[5]:
                request = ("request", given[4], given[5], given[1], drafting, given[3], tape)
                self.same(write_bound(*given, drafting, tape), alone(given[0], given[2], request))

    def test_as_by_hand(self):
        source = random.Random(82)
        for _ in range(200):
            given = model, settings, vocabulary, grammar, prompt, most = some_fitting(source)
            drafting, tape = source.choice((None, drawn.some_drafting(source, model[1]))), drawn.some_tape(source)
            if most:
                right = by_hand.course(model, vocabulary, ("request", prompt, most, settings, drafting, grammar, tape))[1]
                self.same(write_bound(*given, drafting, tape), right)
            weights = by_hand_chances.masked(by_hand.plain(model, settings, prompt), vocabulary, grammar, most)
            draws = by_hand.Draws(tape)
            answer, reason = (), None
            while len(answer) < most and reason is None:
                token = draws.token(weights(answer))
                answer, reason = (answer, "end") if token == 0 else ((*answer, token), None)
            self.same(write_masked(*given, tape), (answer, reason or "most", draws.used))


class Drafted(Case):

    def test_rounds_with_the_bound_weights_come_to_the_bound_chances(self):
        source = random.Random(83)
        for _ in range(150):
            given = model, settings, vocabulary, grammar, prompt, most = some_fitting(source)
            drafting = drawn.some_drafting(source, model[1])
            p = by_hand.bound(by_hand.plain(model, settings, prompt), vocabulary, grammar, most)
            q = by_hand.plain(drafting[0], drafting[1], prompt)
            self.same(by_hand_chances.all_runs(p, q, drafting[2], most)[0], bound_chances(*given))

    def test_all_tapes_come_to_them(self):
        # All numbers below which a draw is made divide the base, and no run makes more draws than the length.
        for drafting, base, length in ((None, 3, 2), ((EVEN, (), (("row", 1),)), 9, 4), ((EVEN, (), (("several", 1),)), 9, 5)):
            many = {}
            for tape in itertools.product(range(base), repeat=length):
                outcome = write_bound(COIN, (), LETTERS, ENDS, (1,), 2, drafting, tape)[:2]
                many[outcome] = many.get(outcome, 0) + 1
            self.assertEqual(many, {((1, 2), "most"): 2 * base ** length // 3, ((2,), "end"): base ** length // 3})


class Errors(Case):

    def test_each_comes_before_those_behind_it(self):
        for function, names in FUNCTIONS:
            for at, (error, name, wrong) in enumerate(FAULTS):
                for thing in wrong:
                    later = {other: "Wrong" for _, other, _ in FAULTS[at + 1:]}
                    self.fails(error, thing, function, **given_for(names, **{name: thing}))
                    self.fails(error, thing, function, *{**given_for(names), **later, **{other: "Wrong" for other in names},
                                                         name: thing}.values())

    def test_draftings_and_tapes_come_before_the_size(self):
        for drafting in DRAFTINGS:
            for more in ({}, {"tape": None, "vocabulary": MERGED, "grammar": NONE}):
                self.fails(BadDrafting, drafting, write_bound, **given_for(("drafting", "tape"), **more, drafting=drafting))
        for tape in TAPES:
            for more in ({}, {"vocabulary": MERGED}, {"grammar": NONE}):
                self.fails(BadTape, tape, write_bound, **given_for(("drafting",), **more, tape=tape))
                self.fails(BadTape, tape, write_masked, **given_for((), **more, tape=tape))

    def test_the_size_comes_before_the_answer_and_the_fit(self):
        for function, names in FUNCTIONS:
            for vocabulary in (MERGED, ("vocabulary", "a", ()), ("vocabulary", "abc", ())):
                self.fails(BadSize, vocabulary, function, **given_for(names, vocabulary=vocabulary))
                self.fails(BadSize, vocabulary, function, **given_for(names, vocabulary=vocabulary, grammar=NONE))
                if "answer" in names:
                    self.fails(BadSize, vocabulary, function, **given_for(names, vocabulary=vocabulary, answer=None))

    def test_answers_come_before_the_fit(self):
        for answer in ANSWERS:
            for grammar in (ENDS, NONE):
                self.fails(BadAnswer, answer, mask_weights, **{**GIVEN, "grammar": grammar}, answer=answer)
                self.fails(BadAnswer, answer, bound_weights, **{**GIVEN, "grammar": grammar}, answer=answer)
        self.fails(BadAnswer, MORE["answer"], mask_weights, **{**GIVEN, "most": 0}, answer=MORE["answer"])

    def test_nothing_fits(self):
        for function, names in FUNCTIONS:
            if function is mask_holds:
                continue
            for more in ({"grammar": NONE}, {"settings": (("ban", (2,)),)}, {"grammar": (*ENDS[:3], (), ENDS[4])}):
                with self.assertRaises(DraftError) as caught:
                    function(**given_for(names, **more))
                self.assertIs(type(caught.exception), NoFit)
        # For the two weights it is the ending of the answer that counts.
        for function in (mask_weights, bound_weights):
            self.same(function(**{**GIVEN, "settings": (("ban", (2,)),)}, answer=(2,)), (1, 0, 0))
            with self.assertRaises(NoFit):
                function(**GIVEN, answer=(2, 1))

    def test_most_0_that_does_not_fit(self):
        with self.assertRaises(NoFit):
            write_bound(COIN, (), LETTERS, ENDS, (1,), 0, None, ())

    def test_no_drafting(self):
        self.same(write_bound(**given_for(("tape",), drafting=None)), write_bound(COIN, (), LETTERS, ENDS, (1,), 3, None, (1, 2, 3)))

    def test_beyond_the_limits(self):
        four = ("window", 4, 0, (), (1, 2, 3, 4))
        many = ("grammar", 14, 0, (13,), tuple((state, "a", state + 1) for state in range(13)))
        settings = (("power", 5), ("seen", 101, 102))
        found = bound_chances(four, settings, MERGED, ("grammar", 1, 0, (0,), ((0, "b", 0),)), (1,) * 13, 6)
        self.same(len(found), 7)
        self.same(len(bound_chances(TWO, (), ("vocabulary", "a", ()), many, (1,) * 20, 30)), 1)
        self.same(write_bound(TWO, (), ("vocabulary", "a", ()), many, (1,) * 20, 30, (TWO, (), (("row", 9),)), ())[:2],
                  ((1,) * 13, "end"))


if __name__ == "__main__":
    unittest.main()
