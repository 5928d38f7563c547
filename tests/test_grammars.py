"""Grammars, endings, bound weights, single bound rounds and requests [7.1], [7.2], [7.3], [7.5], [7.6]."""

import itertools
import random
import unittest

import by_hand
import drawn
from draftward.drafts import round_of
from draftward.errors import BadAnswer, BadDrafting, BadGrammar, BadModel, BadNumber, BadPrompt, BadRequest, BadSettings
from draftward.errors import BadSize, BadTape, BadText, BadVocabulary, DraftError, NoFit
from draftward.grammars import alone, bound_weights, ending, is_grammar, is_request, round_bound, state_after
from samples import ODD, Case, spoiled

COIN = ("window", 3, 0, (), (1, 2, 1))
EVEN = ("window", 3, 0, (), (1, 1, 1))
NEVER = ("window", 3, 0, (), (0, 2, 1))
TWO = ("window", 2, 0, (), (1, 1))
LETTERS = ("vocabulary", "ab", ())
MERGED = ("vocabulary", "ab", ((1, 2),))
ENDS = ("grammar", 2, 0, (1,), ((0, "a", 0), (0, "b", 1)))
ALL = ("grammar", 1, 0, (0,), ((0, "a", 0), (0, "b", 0)))
NONE = ("grammar", 1, 0, (), ((0, "a", 0), (0, "b", 0)))
ROW = (EVEN, (), (("row", 2),))

GIVEN = {"model": COIN, "settings": (), "vocabulary": LETTERS, "grammar": ENDS, "prompt": (1,), "most": 3}
FAULTS = (
    (BadModel, "model", (None, [], list(COIN), "net")),
    (BadSettings, "settings", (None, [], (("power", 0),), (("ban", (3,)),))),
    (BadVocabulary, "vocabulary", (None, [], list(LETTERS), ("vocabulary", "aa", ()))),
    (BadGrammar, "grammar", (None, [], list(ENDS), (*ENDS[:3], (2,), ENDS[4]))),
    (BadPrompt, "prompt", (None, (), (0,), (3,), [1], (True,))),
    (BadNumber, "most", (None, -1, True, "4", (4,))),
)
WRONG_ANSWERS = (None, [], [1], (0,), (3,), (-1,), (True,), (1, 0), (1,) * 4, "1", 1)
BOUND_FAULTS = (
    (BadDrafting, "drafting", ((), [], False, (EVEN, (), ()), (TWO, (), (("row", 1),)))),
    (BadAnswer, "answer", (*WRONG_ANSWERS, (1, 1, 1))),
    (BadTape, "tape", (None, [], [1], (-1,), (True,), 1)),
    (BadNumber, "used", (None, -1, True, "0")),
    (BadNumber, "number", (None, -1, False, [0])),
)
ROUND = {**GIVEN, "drafting": ROW, "answer": (), "tape": (1, 2, 3), "used": 0, "number": 0}
ASK = ("request", (1,), 3, (), ROW, ENDS, (3, 1, 4, 1, 5, 9, 2, 6))


class Grammars(Case):

    def test_right_ones(self):
        for grammar in (ENDS, ALL, NONE, ("grammar", 10 ** 39, 10 ** 38, (0, 10 ** 39 - 1), ()), ("grammar", 1, 0, (), ()),
                        ("grammar", 3, 2, (0, 1, 2), ((0, "z", 2), (1, "a", 1), (2, "a", 0), (2, "b", 0)))):
            self.assertIs(is_grammar(grammar), True, grammar)

    def test_wrong_ones(self):
        for grammar in (list(ENDS), ENDS[:4], (*ENDS, ()), ("Grammar", *ENDS[1:]), ("grammar", 0, 0, (), ()),
                        ("grammar", True, 0, (), ()), ("grammar", 1, 1, (), ()), ("grammar", 1, -1, (), ()),
                        ("grammar", 2, True, (), ()), ("grammar", 2, 0, (2,), ()), ("grammar", 2, 0, (1, 0), ()),
                        ("grammar", 2, 0, (1, 1), ()), ("grammar", 2, 0, (True,), ()), ("grammar", 2, 0, [1], ()),
                        ("grammar", 2, 0, (-1,), ()), ("grammar", 2, 0, (), [(0, "a", 0)]), ("grammar", 2, 0, (), ((0, "a"),)),
                        ("grammar", 2, 0, (), ((0, "a", 2),)), ("grammar", 2, 0, (), ((2, "a", 0),)),
                        ("grammar", 2, 0, (), ((0, "A", 0),)), ("grammar", 2, 0, (), ((0, "ab", 0),)),
                        ("grammar", 2, 0, (), ((0, "", 0),)), ("grammar", 2, 0, (), ((0, "1", 0),)),
                        ("grammar", 2, 0, (), ((0, 1, 0),)), ("grammar", 2, 0, (), ((0, "a", 0), (0, "a", 1))),
                        ("grammar", 2, 0, (), ((0, "b", 0), (0, "a", 1))), ("grammar", 2, 0, (), ((1, "a", 0), (0, "a", 1))),
                        ("grammar", 2, 0, (), ((0, "a", 0), (0, "a", 0))), ("grammar", 2, 0, (), ((False, "a", 0),)),
                        ("grammar", 2, 0, (), ((0, "a", 0, 0),)), ("grammar", 2, 0, (), (["a", 0, 0],)),
                        ("grammar", 2, 0, (), (None,)), ("grammar", 2, 0, (), ((0, ("a",), 0),)), None, "grammar", ()):
            self.assertIs(is_grammar(grammar), False, grammar)

    def test_any_values(self):
        for thing in (*ODD, *spoiled(ENDS), *spoiled(ALL)):
            self.assertIs(is_grammar(thing), by_hand.is_right_grammar(thing), thing)

    def test_state_after(self):
        self.same([state_after(ENDS, text) for text in ("", "a", "aab", "b", "ba", "abb", "c", "z")],
                  [0, 0, 1, 1, None, None, None, None])
        self.same(state_after(text="ab", grammar=ALL), 0)
        self.same(state_after(("grammar", 3, 2, (), ((0, "x", 1), (2, "y", 0))), "yx"), 1)

    def test_state_after_errors(self):
        for grammar in ODD:
            self.fails(BadGrammar, grammar, state_after, grammar, None)
        for text in (None, 1, "A", "a1", "a b", "a\n", ["a"], ("a",), True, b"a"):
            self.fails(BadText, text, state_after, ENDS, text)


class Endings(Case):

    def test_those_of_the_document(self):
        self.same(ending(COIN, (), LETTERS, ENDS, (1,), 2, (1,)), (1, 4))
        self.same(ending(COIN, (), LETTERS, ENDS, (1,), 2, ()), (3, 16))
        self.same(bound_weights(COIN, (), LETTERS, ENDS, (1,), 2, ()), (0, 2, 1))

    def test_ends(self):
        self.same(ending(COIN, (), LETTERS, ENDS, (1,), 2, (2,)), (1, 4))
        self.same(ending(COIN, (), LETTERS, ENDS, (1,), 2, (1, 2)), (1, 1))
        self.same(ending(COIN, (), LETTERS, ENDS, (1,), 2, (1, 1)), (0, 1))
        self.same(ending(COIN, (), LETTERS, ENDS, (1,), 2, (2, 1)), (0, 1))
        self.same(ending(COIN, (), LETTERS, ENDS, (1,), 5, (2, 1)), (0, 1))
        self.same(ending(COIN, (), LETTERS, ENDS, (1,), 0, ()), (0, 1))
        self.same(ending(COIN, (), LETTERS, ALL, (1,), 0, ()), (1, 1))
        self.same(ending(COIN, (), LETTERS, ALL, (1,), 4, (1,)), (1, 1))
        self.same(ending(COIN, (), LETTERS, NONE, (1,), 4, (1,)), (0, 1))

    def test_an_answer_that_never_comes_has_an_ending(self):
        self.same(ending(NEVER, (("ban", (2,)),), LETTERS, ENDS, (1,), 2, (2, 2)), (0, 1))
        self.same(ending(COIN, (("ban", (2,)),), LETTERS, ENDS, (1,), 2, (2,)), (1, 3))
        self.same(bound_weights(COIN, (("ban", (2,)),), LETTERS, ENDS, (1,), 2, (2,)), (1, 0, 0))

    def test_bound_weights_are_least_integers(self):
        self.same(bound_weights(COIN, (), LETTERS, ALL, (1,), 2, ()), (1, 2, 1))
        self.same(bound_weights(COIN, (("seen", 6, 6),), LETTERS, ALL, (1,), 2, ()), (1, 2, 1))
        self.same(bound_weights(COIN, (), LETTERS, ENDS, (1,), 2, (1,)), (0, 0, 1))
        self.same(bound_weights(COIN, (), LETTERS, ENDS, (1,), 2, (2,)), (1, 0, 0))
        self.same(bound_weights(COIN, (), LETTERS, ENDS, (1,), 3, ()), (0, 3, 2))

    def test_pieces_of_several_letters(self):
        model = ("window", 4, 0, (), (1, 1, 1, 1))
        self.same(ending(model, (), MERGED, ENDS, (1,), 1, ()), (1, 2))
        self.same(bound_weights(model, (), MERGED, ENDS, (1,), 1, ()), (0, 0, 1, 1))
        self.same(ending(model, (), MERGED, ENDS, (1,), 2, (3,)), (1, 4))

    def test_as_by_hand(self):
        source = random.Random(71)
        for _ in range(150):
            size = source.randint(2, 4)
            model, vocabulary = drawn.some_model(source, size), drawn.VOCABULARIES[size]
            settings, prompt = drawn.some_settings(source, size), drawn.some_prompt(source, size)
            grammar, most = drawn.some_grammar(source), source.randint(0, 3)
            given = (model, settings, vocabulary, grammar, prompt, most)
            after = by_hand.plain(model, settings, prompt)
            bound = by_hand.bound(after, vocabulary, grammar, most)
            for answer in by_hand.answers(size, most):
                right = by_hand.ending(after, vocabulary, grammar, most, answer)
                self.same(ending(*given, answer), by_hand.pair(right))
                if len(answer) < most and right:
                    self.same(bound_weights(*given, answer), tuple(bound(answer)))
                elif len(answer) < most:
                    with self.assertRaises(NoFit):
                        bound_weights(*given, answer)


class Rounds(Case):

    def test_a_round_without_a_drafting(self):
        self.same(round_bound(COIN, (), LETTERS, ENDS, (1,), 2, None, (), (0, 2), 0, 0), ((1,), None, 1))
        self.same(round_bound(COIN, (), LETTERS, ENDS, (1,), 2, None, (), (0, 2), 1, 0), ((2,), None, 2))
        self.same(round_bound(COIN, (), LETTERS, ENDS, (1,), 2, None, (1,), (0, 2), 1, 0), ((2,), "most", 2))
        self.same(round_bound(COIN, (), LETTERS, ENDS, (1,), 2, None, (2,), (7,), 0, 0), ((), "end", 1))

    def test_a_drafted_token_that_does_not_fit_is_not_kept(self):
        # The end token is drafted, which the grammar does not let come.
        self.same(round_bound(COIN, (), LETTERS, ENDS, (1,), 2, ROW, (), (0, 0, 0), 0, 0), ((1,), None, 3))
        # Behind 2 nothing fits but the end: 1 is drafted there and not kept.
        self.same(round_bound(COIN, (), LETTERS, ENDS, (1,), 2, ROW, (), (2, 1, 0, 0, 0), 0, 0), ((2,), "end", 5))

    def test_a_grammar_that_all_fit_changes_nothing(self):
        source = random.Random(72)
        for _ in range(300):
            tape, number = drawn.some_tape(source), source.randint(0, 3)
            drafting = drawn.some_drafting(source, 3)
            plain = round_of(COIN, (), drafting, (1,), 4, (), tape, 0, number)
            self.same(round_bound(COIN, (), LETTERS, ALL, (1,), 4, drafting, (), tape, 0, number), plain)


class Errors(Case):

    def test_each_comes_before_those_behind_it(self):
        for function, more in ((ending, {"answer": None}), (bound_weights, {"answer": None}),
                               (round_bound, {name: False for _, name, _ in BOUND_FAULTS})):
            for at, (error, name, wrong) in enumerate(FAULTS):
                for thing in wrong:
                    later = {other: False for _, other, _ in FAULTS[at + 1:]}
                    self.fails(error, thing, function, **{**GIVEN, **later, **more, name: thing})
                    self.fails(error, thing, function, *{**GIVEN, name: thing, **more}.values())

    def test_those_of_rounds_come_before_the_size(self):
        four = ("vocabulary", "abc", ())
        for at, (error, name, wrong) in enumerate(BOUND_FAULTS):
            for thing in wrong:
                later = {other: False for _, other, _ in BOUND_FAULTS[at + 1:]}
                self.fails(error, thing, round_bound, **{**ROUND, **later, "vocabulary": four, name: thing})
                self.fails(error, thing, round_bound, *{**ROUND, name: thing}.values())
        self.fails(BadSize, four, round_bound, **{**ROUND, "vocabulary": four, "grammar": NONE})

    def test_the_size_comes_before_the_answer_elsewhere(self):
        for vocabulary in (MERGED, ("vocabulary", "a", ())):
            for answer in ((), None, (9,)):
                self.fails(BadSize, vocabulary, ending, **{**GIVEN, "vocabulary": vocabulary}, answer=answer)
                self.fails(BadSize, vocabulary, bound_weights, **{**GIVEN, "vocabulary": vocabulary}, answer=answer)

    def test_answers(self):
        for answer in WRONG_ANSWERS:
            self.fails(BadAnswer, answer, ending, **GIVEN, answer=answer)
            self.fails(BadAnswer, answer, bound_weights, **GIVEN, answer=answer)
            self.fails(BadAnswer, answer, bound_weights, **{**GIVEN, "grammar": NONE}, answer=answer)
        full = (1, 1, 2)
        self.same(ending(**GIVEN, answer=full), (1, 1))
        self.fails(BadAnswer, full, bound_weights, **GIVEN, answer=full)

    def check_no_fit(self, function, **given):
        with self.assertRaises(DraftError) as caught:
            function(**given)
        self.assertIs(type(caught.exception), NoFit)

    def test_nothing_fits(self):
        self.check_no_fit(bound_weights, **{**GIVEN, "grammar": NONE}, answer=())
        self.check_no_fit(bound_weights, **GIVEN, answer=(2, 1))
        self.check_no_fit(round_bound, **{**ROUND, "grammar": NONE})
        self.check_no_fit(round_bound, **{**ROUND, "answer": (2, 1)})
        # From () nothing that fits can come, although it could from the answer, which cannot come itself.
        banned = {"settings": (("ban", (2,)),), "answer": (2,)}
        self.check_no_fit(round_bound, **{**ROUND, **banned})
        self.same(bound_weights(**{**GIVEN, **banned}), (1, 0, 0))

    def test_any_values(self):
        for name in ROUND:
            for thing in spoiled(ROUND[name]):
                # An answer of so many tokens at most takes too long.
                if thing != 10 ** 39:
                    try:
                        round_bound(**{**ROUND, name: thing})
                    except NoFit:
                        pass
                    except DraftError as caught:
                        given = {**ROUND, name: thing}.values()
                        self.assertIn(id(caught.thing), [id(value) for value in given])


def replaced(request, at, part):
    return (*request[:at], part, *request[at + 1:])


class Requests(Case):

    def test_right_ones(self):
        for request in (ASK, replaced(ASK, 4, None), replaced(ASK, 5, None), replaced(ASK, 6, ()), replaced(ASK, 2, 1),
                        replaced(replaced(ASK, 5, None), 2, 40), replaced(ASK, 3, (("least", 1),))):
            self.assertIs(is_request(COIN, LETTERS, request), True, request)

    def test_most(self):
        free = replaced(ASK, 5, None)
        for most in (1, 2, 39, 40):
            self.assertIs(is_request(COIN, LETTERS, replaced(free, 2, most)), True, most)
        for most in (0, 41, -1, True, None, "3", 10 ** 39, (3,)):
            self.assertIs(is_request(COIN, LETTERS, replaced(free, 2, most)), False, most)
            self.assertIs(is_request(COIN, LETTERS, replaced(ASK, 2, most)), False, most)

    def test_parts(self):
        for at, parts in ((0, ("Request", None, ("request",))), (1, ((), (0,), (3,), [1], (True,), None)),
                          (3, (None, [], (("power", 0),), (("ban", (3,)),))), (4, ((), False, (TWO, (), (("row", 1),)))),
                          (5, ((), False, "grammar", list(ENDS))), (6, (None, [], (-1,), (True,), ("1",)))):
            for part in parts:
                self.assertIs(is_request(COIN, LETTERS, replaced(ASK, at, part)), False, part)
        for thing in (ASK[:6], (*ASK, None), list(ASK), None, (), "request"):
            self.assertIs(is_request(COIN, LETTERS, thing), False)

    def test_a_grammar_needs_a_vocabulary_of_the_size(self):
        for vocabulary in (None, MERGED, ("vocabulary", "a", ())):
            self.assertIs(is_request(COIN, vocabulary, ASK), False)
            self.assertIs(is_request(COIN, vocabulary, replaced(ASK, 5, None)), True)

    def test_a_grammar_needs_few_answers(self):
        for size, limit in ((2, 40), (3, 7), (4, 4), (15, 2), (16, 1)):
            merges = ((1, 1), (7, 1), (8, 1), (9, 1), (10, 1), (11, 1), (12, 1), (13, 1), (14, 1))[:max(0, size - 7)]
            vocabulary = ("vocabulary", "abcdef"[:min(size - 1, 6)], merges)
            model = ("window", size, 0, (), (1,) * size)
            grammar = ("grammar", 1, 0, (0,), ())
            for most in range(1, 41):
                request = ("request", (1,), most, (), None, grammar, ())
                self.assertIs(is_request(model, vocabulary, request), most <= limit, (size, most))

    def test_a_grammar_needs_an_outcome_that_can_come(self):
        self.assertIs(is_request(COIN, LETTERS, replaced(ASK, 5, NONE)), False)
        self.assertIs(is_request(COIN, LETTERS, replaced(ASK, 3, (("ban", (2,)),))), False)
        self.assertIs(is_request(COIN, LETTERS, replaced(ASK, 3, (("ban", (0,)),))), True)
        self.assertIs(is_request(COIN, LETTERS, replaced(replaced(ASK, 3, (("ban", (0,)),)), 5,
                                                         ("grammar", 1, 0, (0,), ((0, "a", 0),)))), True)
        only = ("grammar", 1, 0, (0,), ())
        self.assertIs(is_request(COIN, LETTERS, replaced(ASK, 5, only)), True)
        self.assertIs(is_request(NEVER, LETTERS, replaced(ASK, 5, only)), False)

    def test_any_values(self):
        for thing in (*ODD, *spoiled(ASK)):
            self.assertIs(is_request(COIN, LETTERS, thing), by_hand.is_right_request(COIN, LETTERS, thing), thing)

    def test_errors(self):
        for model in (*ODD, list(COIN)):
            self.fails(BadModel, model, is_request, model, False, None)
            self.fails(BadModel, model, alone, model, False, None)
        for vocabulary in ([], False, (), "ab", list(LETTERS), ("vocabulary", "", ())):
            self.fails(BadVocabulary, vocabulary, is_request, COIN, vocabulary, None)
            self.fails(BadVocabulary, vocabulary, alone, COIN, vocabulary, None)
        for request in (*ODD, list(ASK), ASK[:6], replaced(ASK, 5, NONE), replaced(ASK, 2, 0)):
            self.fails(BadRequest, request, alone, COIN, LETTERS, request)
        self.fails(BadRequest, ASK, alone, COIN, None, ASK)

    def test_by_name(self):
        free = replaced(ASK, 5, None)
        self.same(is_request(thing=free, vocabulary=None, model=COIN), True)
        self.same(alone(request=free, vocabulary=None, model=COIN), alone(COIN, LETTERS, free))

    def test_alone(self):
        self.same(alone(COIN, None, ("request", (1,), 2, (), None, None, (3, 1))), ((2, 1), "most", 2, 2))
        self.same(alone(COIN, None, ("request", (1,), 2, (), None, None, (3, 0))), ((2,), "end", 2, 2))
        self.same(alone(COIN, None, ("request", (1,), 3, (), None, None, ())), ((), "end", 1, 1))
        self.same(alone(COIN, LETTERS, ("request", (1,), 2, (), None, ENDS, (2, 0))), ((2,), "end", 2, 2))
        self.same(alone(COIN, LETTERS, ("request", (1,), 2, (), None, ENDS, ())), ((1, 2), "most", 2, 2))
        self.same(alone(COIN, None, ("request", (1,), 3, (), ROW, None, (1, 1, 0, 0, 3))), ((1, 1, 2), "most", 5, 1))

    def test_the_plan_goes_on_from_round_to_round(self):
        drafting = (EVEN, (), (("row", 2), ("several", 1)))
        tape = (1, 1, 0, 0, 3, 2, 2, 2, 3, 0, 1, 1, 1, 0, 0, 0)
        request = ("request", (1,), 8, (("least", 8),), drafting, None, tape)
        self.same(alone(COIN, None, request), ((1, 1, 1, 2, 2, 1, 1, 1), "most", 17, 5))

    def test_alone_as_by_hand(self):
        source = random.Random(76)
        for _ in range(400):
            size = source.randint(2, 4)
            model, vocabulary = drawn.some_model(source, size), source.choice((None, drawn.VOCABULARIES[size]))
            request = drawn.some_request(source, model, vocabulary)
            self.assertIs(by_hand.is_right_request(model, vocabulary, request), True)
            self.same(alone(model, vocabulary, request), by_hand.course(model, vocabulary, request)[1])

    def test_what_fits_by_hand(self):
        source = random.Random(77)
        seen = set()
        for _ in range(300):
            model, settings = drawn.some_window(source, 3), drawn.some_settings(source, 3)
            grammar, most = drawn.some_grammar(source), source.randint(1, 3)
            request = ("request", (1,), most, settings, None, grammar, ())
            right = by_hand.is_right_request(model, LETTERS, request)
            seen.add(right)
            self.assertIs(is_request(model, LETTERS, request), right)
        self.assertEqual(seen, {True, False})

    def test_bound_answers_come_in_their_shares(self):
        many = {}
        for tape in itertools.product(range(3), repeat=2):
            outcome = alone(COIN, LETTERS, ("request", (1,), 2, (), None, ENDS, tape))[:2]
            many[outcome] = many.get(outcome, 0) + 1
        self.assertEqual(many, {((1, 2), "most"): 6, ((2,), "end"): 3})


if __name__ == "__main__":
    unittest.main()
