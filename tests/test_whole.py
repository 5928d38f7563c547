"""What the document promises over the whole program: its conventions [0.2] and its guarantee [0.3]."""

import copy
import itertools
import math
import random
import unittest
from fractions import Fraction

import by_hand
import by_hand_chances
import by_hand_journals
import drawn
from draftward import errors
from draftward.beams import best_outcomes
from draftward.counting import counted, counted_server, period, reach
from draftward.drafts import drafted_chances, gain, rest, round_of
from draftward.errors import DraftError, NoFit
from draftward.grammars import alone, bound_chances, bound_weights, ending, judge_mask, masked_chances, state_after
from draftward.journals import gone_on, journal_after, shown
from draftward.models import model_weights, stepped
from draftward.pages import added, is_true, kept, new_pool
from draftward.schedules import bound, bound_of
from draftward.servers import begun, ended, need, stepped_once
from draftward.tokens import piece, to_text, to_tokens, trained
from draftward.traces import read_model, read_vocabulary
from draftward.writer import draw, plain_chance, plain_chances, write_plain
from samples import ALL_ERRORS, Case
from test_conventions import CALLS

COIN = ("window", 3, 0, (), (1, 2, 1))
LETTERS = ("vocabulary", "ab", ())
ENDS = ("grammar", 2, 0, (1,), ((0, "a", 0), (0, "b", 1)))
NONE = ("grammar", 1, 0, (), ())
SERVER = (COIN, None, 2, 2, 2, (("go",),))
ASK = ("request", (1,), 1, (), None, None, (3,))
HUGE = ("request", (1,), 40, (), None, None, ())
WRONG = ["wrong"]

# For each error calls that raise it, each with the wrong value; BadSize and Refused carry values that are right elsewhere.
RAISED = {
    "BadModel": ((model_weights, (WRONG, (1,))), (gain, (WRONG, (), None, (1,), 0))),
    "BadSettings": ((write_plain, (COIN, WRONG, (1,), 1, ())), (best_outcomes, (COIN, WRONG, (1,), 1, 1))),
    "BadDrafting": ((gain, (COIN, (), WRONG, (1,), 0)), (period, (COIN, (), WRONG, (1,), 1))),
    "BadGrammar": ((state_after, (WRONG, "a")), (ending, (COIN, (), LETTERS, WRONG, (1,), 1, ()))),
    "BadVocabulary": ((piece, (WRONG, 0)), (alone, (COIN, WRONG, ASK))),
    "BadPrompt": ((plain_chances, (COIN, (), WRONG, 1)), (drafted_chances, (COIN, (), None, WRONG, 1))),
    "BadNumber": ((trained, (("a",), WRONG)), (counted, (COIN, (), None, (1,), 1, WRONG, 0)), (journal_after, (SERVER, (), WRONG))),
    "BadTape": ((draw, ((1,), WRONG, 0)), (round_of, (COIN, (), None, (1,), 1, (), WRONG, 0, 0))),
    "BadTokens": ((to_text, (LETTERS, WRONG)), (model_weights, (COIN, WRONG))),
    "BadToken": ((piece, (LETTERS, WRONG)), (stepped, (COIN, (), WRONG))),
    "BadText": ((to_tokens, (LETTERS, WRONG)), (state_after, (ENDS, WRONG))),
    "BadTexts": ((trained, (WRONG, 1)),),
    "BadRows": ((stepped, (COIN, WRONG, 1)), (added, (COIN, (2, (None,), ((0, ()),)), 0, 1, WRONG))),
    "BadWeights": ((draw, (WRONG, (), 0)), (rest, ((1, 1), WRONG))),
    "BadOutcome": ((plain_chance, (COIN, (), (1,), 1, WRONG)),),
    "BadAnswer": ((ending, (COIN, (), LETTERS, ENDS, (1,), 1, WRONG)), (round_of, (COIN, (), None, (1,), 1, WRONG, (), 0, 0))),
    "BadSize": (),
    "BadRequest": ((need, (SERVER, WRONG)), (kept, (COIN, new_pool(COIN, 1, 1), WRONG)), (bound_of, (SERVER, WRONG))),
    "BadLengths": ((counted_server, (SERVER, (), 1, WRONG)),),
    "BadPool": ((is_true, (COIN, WRONG)),),
    "BadServer": ((begun, (WRONG, ())), (bound, (WRONG, ())), (journal_after, (WRONG, (), 0))),
    "BadArrivals": ((begun, (SERVER, WRONG)), (bound, (SERVER, WRONG)), (journal_after, (SERVER, WRONG, 0))),
    "BadStanding": ((stepped_once, (SERVER, (), WRONG)),),
    "Refused": (),
    "BadJournal": ((gone_on, (SERVER, (), WRONG, 0)), (shown, (SERVER, (), WRONG))),
}


class Errors(Case):

    def test_every_class_is_raised_and_carries_its_value(self):
        self.assertEqual(sorted([*RAISED, "NoFit", "BadLine"]), sorted(ALL_ERRORS))
        for name, calls in RAISED.items():
            for function, args in calls:
                self.fails(getattr(errors, name), WRONG, function, *args)

    def test_those_that_carry_values_which_are_right_elsewhere(self):
        four = ("vocabulary", "abc", ())
        self.fails(errors.BadSize, four, judge_mask, COIN, (), four, ENDS, (1,), 1)
        self.fails(errors.Refused, HUGE, bound_of, SERVER, HUGE)
        # A server with a wrong model is no server, and no error of models is raised.
        wrong = (WRONG, *SERVER[1:])
        self.fails(errors.BadServer, wrong, bound_of, wrong, ASK)

    def test_errors_without_a_thing(self):
        for call, right in ((lambda: bound_weights(COIN, (), LETTERS, NONE, (1,), 1, ()), {}),
                            (lambda: masked_chances(COIN, (), LETTERS, NONE, (1,), 1), {}),
                            (lambda: read_model(WRONG), {"at": 0}), (lambda: read_vocabulary("letters"), {"at": 1}),
                            (lambda: read_model("window 2 0"), {"at": 2})):
            with self.assertRaises(DraftError) as caught:
                call()
            self.assertIs(type(caught.exception), errors.BadLine if right else NoFit)
            self.same(vars(caught.exception), right)


class Calls(Case):

    def test_equal_calls_have_equal_results_whatever_was_called_between(self):
        right = [repr(function(**given)) for function, given in CALLS]
        source = random.Random(1)
        for _ in range(20):
            for at in source.sample(range(len(CALLS)), len(CALLS)):
                function, given = CALLS[at]
                if source.random() < 0.3:
                    wrong = {**given, source.choice(list(given)): WRONG}
                    try:
                        function(**wrong)
                    except DraftError:
                        pass
                self.assertEqual(repr(function(**copy.deepcopy(given))), right[at])
        self.same(WRONG, ["wrong"])

    def test_what_is_passed_is_not_changed(self):
        for function, given in CALLS:
            before = copy.deepcopy(given)
            function(**given)
            self.same(given, before)


def chances_of(model, vocabulary, request):
    """Return the chances of the outcomes of a request, whatever its tape: the plain ones, or the bound ones."""
    _, prompt, most, settings, _, grammar, _ = request
    if grammar is None:
        return plain_chances(model, settings, prompt, most)
    return bound_chances(model, settings, vocabulary, grammar, prompt, most)


class Guarantee(Case):

    def test_drafts_change_no_chance(self):
        source = random.Random(2)
        for _ in range(100):
            size = source.randint(2, 4)
            given = (drawn.some_model(source, size), drawn.some_settings(source, size))
            prompt, most = drawn.some_prompt(source, size), source.randint(0, 3)
            right = plain_chances(*given, prompt, most)
            for _ in range(3):
                self.same(drafted_chances(*given, drawn.some_drafting(source, size), prompt, most), right)

    def test_a_mask_is_exact_or_two_answers_show_it(self):
        source = random.Random(3)
        seen = set()
        for _ in range(150):
            size = source.randint(2, 4)
            given = (drawn.some_model(source, size), drawn.some_settings(source, size), drawn.VOCABULARIES[size],
                     drawn.some_grammar(source), drawn.some_prompt(source, size), source.randint(0, 3))
            if ending(*given, ()) == (0, 1):
                continue
            model, settings, _, _, prompt, most = given
            masked, plain = dict(masked_chances(*given)), dict(plain_chances(model, settings, prompt, most))
            word, *shown_by = judge_mask(*given)
            seen.add(word)
            if word == "exact":
                self.same(tuple(masked.items()), bound_chances(*given))
            else:
                one, other = [Fraction(*masked[outcome]) / Fraction(*plain[outcome]) for outcome in shown_by]
                self.assertNotEqual(one, other)
        self.assertEqual(seen, {"exact", "unlike"})

    def test_every_server_every_table_and_every_cut(self):
        source = random.Random(4)
        for _ in range(80):
            server = drawn.some_server(source)
            arrivals = drawn.some_arrivals(source, server)
            right = tuple((number, ("refused",) if need(server, request) > server[2] else alone(*server[:2], request)[:2])
                          for number, (_, request) in enumerate(arrivals))
            for _ in range(4):
                now = (*server[:5], drawn.some_table(source))
                steps, outcomes = ended(now, arrivals)
                self.same(outcomes, right)
                self.assertLessEqual(steps, bound(now, arrivals))
                rows = journal_after(now, arrivals, source.randint(0, steps))
                standing = gone_on(server, arrivals, rows[:source.randint(0, len(rows))], source.randint(0, steps))
                while len(standing[3]) < len(arrivals):
                    standing = stepped_once(server, arrivals, standing)
                self.same(standing[3], right)

    def test_the_chance_of_all_outcomes_together_is_the_product_of_their_own(self):
        source = random.Random(5)
        seen = {True: 0, False: 0}
        while min(seen.values()) < 15:
            size = source.choice((2, 3))
            model, vocabulary = drawn.some_window(source, size), drawn.VOCABULARIES[size]
            requests = [drawn.some_request(source, model, vocabulary) for _ in range(2)]
            requests = [(*request[:2], 1, *request[3:]) for request in requests]
            if not all(by_hand.is_right_request(model, vocabulary, request) for request in requests):
                continue
            writers = [by_hand.writers_of(model, vocabulary, request) for request in requests]
            whole, lengths = self.sizes_of(writers)
            if whole ** sum(lengths) > 3000:
                continue
            server = (model, vocabulary, source.randint(8, 12), 2, source.randint(1, 3), drawn.some_table(source))
            arrivals = tuple((0, request) for request in requests)
            found = counted_server(server, arrivals, whole, lengths)
            shares = [chances_of(model, vocabulary, request) for request in requests]
            right = tuple(((one, other), by_hand.pair(Fraction(*chance) * Fraction(*more)))
                          for one, chance in shares[0] for other, more in shares[1])
            self.same(tuple((outcomes, by_hand.pair(Fraction(many, whole ** sum(lengths)))) for outcomes, many in found), right)
            seen[any(request[5] is not None for request in requests)] += 1

    def sizes_of(self, writers):
        """Return a base that all draws of the requests divide, and the lengths of tapes that hold their draws."""
        runs = [by_hand_chances.all_runs(*given, 1) for given in writers]
        return math.lcm(*[whole for _, _, whole, _ in runs]), tuple(far for _, _, _, far in runs)

    def test_all_rows_of_tapes_by_runs_of_the_server(self):
        # Each draw is below 4 or below 3; so of 12 numbers each comes as often as its share.
        bare = ("request", (1,), 1, (), None, None, ())
        bound_one = ("request", (2,), 2, (), None, ENDS, ())
        self.same([period(COIN, (), None, (1,), 1), reach(COIN, (), None, (1,), 1)], [4, 1])
        server = (COIN, LETTERS, 3, 2, 1, (("go", "lose"), ("wait", "wait"), ("go",)))
        many = {}
        for row in itertools.product(range(12), repeat=3):
            arrivals = ((0, (*bare[:6], row[:1])), (0, (*bound_one[:6], row[1:])))
            outcomes = tuple(outcome for _, outcome in ended(server, arrivals)[1])
            many[outcomes] = many.get(outcomes, 0) + 1
        right = {}
        for one, chance in plain_chances(COIN, (), (1,), 1):
            for other, more in bound_chances(COIN, (), LETTERS, ENDS, (2,), 2):
                right[one, other] = 12 ** 3 * Fraction(*chance) * Fraction(*more)
        self.assertEqual(many, right)
        self.same(counted_server(server, ((0, bare), (0, bound_one)), 12, (1, 2)), tuple(sorted(many.items())))

    def test_a_request_is_refused_exactly_if_it_could_need_more_pages_than_there_are(self):
        for length, most, places, many in itertools.product((1, 2, 5), (1, 2, 4), (1, 2, 3), (1, 2, 3)):
            request = ("request", (1,) * length, most, (("ban", (0,)),), None, None, ())
            server = (COIN, None, many, places, 1, (("go",),))
            outcome = dict(ended(server, ((0, request),))[1])[0]
            # The prompt and all but the last token of the answer are worked out.
            self.assertEqual(outcome == ("refused",), length + most - 1 > many * places)
            self.assertEqual(by_hand_journals.journal(server, ((0, request),))[-1][1] == "refused", outcome == ("refused",))


if __name__ == "__main__":
    unittest.main()
