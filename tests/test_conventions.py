"""The conventions that hold for all functions of the interface [0.2]."""

import copy
import inspect
import unittest

from draftward import beams, counting, drafts, grammars, journals, models, pages, schedules, servers, tokens, traces, writer
from draftward.errors import BadLine, DraftError, NoFit
from samples import ODD, Case, spoiled

LAST = ("window", 3, 1, (((1,), (0, 1, 3)),), (1, 2, 1))
ONE = ((1,),)
NET = ("net", 2, 1, ((1,), (2,)), ((0,),), ((ONE, ONE, ONE, ONE),), ((0,), (1,)))
PAIRS = ("vocabulary", "ab", ((1, 2),))

COIN = ("window", 3, 0, (), (1, 2, 1))
LETTERS = ("vocabulary", "ab", ())
ENDS = ("grammar", 2, 0, (1,), ((0, "a", 0), (0, "b", 1)))
STEPS = (("least", 1), ("ban", (0,)))
ROW = (COIN, (("power", 2),), (("row", 2), ("several", 1)))
ASK = ("request", (1,), 2, STEPS, ROW, ENDS, (3, 1))
ASKING = {"model": COIN, "settings": STEPS, "prompt": (1, 2), "most": 2}
DRAFTED = {"model": COIN, "settings": STEPS, "drafting": ROW, "prompt": (1, 2), "most": 2}
BOUND = {"model": COIN, "settings": (), "vocabulary": LETTERS, "grammar": ENDS, "prompt": (1,), "most": 2}
ROUND = {"answer": (1,), "tape": (1, 2, 0), "used": 1, "number": 0}
POOL = (2, (((1, (1,)), (2, (2,))), ((1, (1,)),), None), ((0, (0, 1)), (4, (0,))))
HELD = {"model": LAST, "pool": POOL, "number": 0}
SERVER = (COIN, LETTERS, 4, 2, 1, (("go", "wait"), ("lose",)))
ARRIVALS = ((0, ASK), (1, ("request", (1, 2), 1, (), None, None, ())))
STANDING = (3, (2, (((1, (1,)),), None, None, None), ((0, (0,)),)), ((0, (), 0, 0),), ((1, ((), "end")),))

JOURNAL = ((1, (), "end", 1),)
TRACE = ((("admitted", 0, 0), ("works", 0, (1,))), (("admitted", 1, 0), ("waits", 1)))

INTERFACE = {
    tokens: (
        ("is_vocabulary", {"thing": PAIRS}),
        ("size", {"vocabulary": PAIRS}),
        ("piece", {"vocabulary": PAIRS, "token": 3}),
        ("to_tokens", {"vocabulary": PAIRS, "text": "aab"}),
        ("to_text", {"vocabulary": PAIRS, "tokens": (1, 3)}),
        ("judge_tokens", {"vocabulary": PAIRS, "text": "aab", "thing": (1, 3)}),
        ("trained", {"texts": ("aab", "ab"), "n": 2}),
    ),
    models: (
        ("is_model", {"thing": NET}),
        ("model_size", {"model": NET}),
        ("model_weights", {"model": NET, "tokens": (1, 0)}),
        ("rows_of", {"model": NET, "tokens": (1, 0)}),
        ("stepped", {"model": NET, "rows": ((((2,), (2,)),),), "token": 0}),
        ("judge_rows", {"model": LAST, "tokens": (1, 0), "thing": ((1,), (0,))}),
    ),
    writer: (
        ("are_settings", {"model": COIN, "thing": STEPS}),
        ("next_weights", {"model": COIN, "settings": STEPS, "tokens": (1, 2), "answered": 1}),
        ("draw", {"weights": (1, 2, 1), "tape": (6, 7), "used": 1}),
        ("write_plain", {**ASKING, "tape": (6, 7)}),
        ("plain_chance", {**ASKING, "outcome": ((1, 2), "most")}),
        ("plain_chances", ASKING),
    ),
    pages: (
        ("is_pool", {"model": LAST, "thing": POOL}),
        ("is_true", {"model": LAST, "pool": POOL}),
        ("new_pool", {"model": LAST, "many": 3, "places": 2}),
        ("kept", HELD),
        ("free_pages", {"model": LAST, "pool": POOL}),
        ("joined", {"model": LAST, "pool": POOL, "number": 1, "tokens": (1, 2, 1)}),
        ("added", {**HELD, "token": 1, "row": (1,)}),
        ("copied", {**HELD, "new": 2}),
        ("cleared", HELD),
        ("lost", HELD),
    ),
    servers: (
        ("is_server", {"thing": SERVER}),
        ("are_arrivals", {"server": SERVER, "thing": ARRIVALS}),
        ("begun", {"server": SERVER, "arrivals": ARRIVALS}),
        ("need", {"server": SERVER, "request": ASK}),
        ("stepped_once", {"server": SERVER, "arrivals": ARRIVALS, "standing": STANDING}),
        ("is_standing", {"server": SERVER, "arrivals": ARRIVALS, "thing": STANDING}),
        ("ended", {"server": SERVER, "arrivals": ARRIVALS}),
    ),
    drafts: (
        ("is_drafting", {"model": COIN, "thing": ROW}),
        ("rest", {"weights": (1, 2, 1), "draft_weights": (1, 1, 1)}),
        ("gain", {"model": COIN, "settings": STEPS, "drafting": ROW, "tokens": (1, 2), "answered": 1}),
        ("round_of", {**DRAFTED, "most": 3, **ROUND}),
        ("write_drafted", {**DRAFTED, "tape": (6, 7)}),
        ("drafted_chances", DRAFTED),
        ("mean_rounds", DRAFTED),
    ),
    grammars: (
        ("is_grammar", {"thing": ENDS}),
        ("state_after", {"grammar": ENDS, "text": "aab"}),
        ("ending", {**BOUND, "answer": (1,)}),
        ("bound_weights", {**BOUND, "answer": (1,)}),
        ("mask_weights", {**BOUND, "answer": (1,)}),
        ("write_bound", {**BOUND, "drafting": ROW, "tape": (1, 2, 0)}),
        ("write_masked", {**BOUND, "tape": (1, 2, 0)}),
        ("round_bound", {**BOUND, "drafting": ROW, **ROUND}),
        ("bound_chances", BOUND),
        ("masked_chances", BOUND),
        ("judge_mask", BOUND),
        ("mask_holds", {**BOUND, "thing": ("exact",)}),
        ("is_request", {"model": COIN, "vocabulary": LETTERS, "thing": ASK}),
        ("alone", {"model": COIN, "vocabulary": LETTERS, "request": ASK}),
    ),
    schedules: (
        ("bound_of", {"server": SERVER, "request": ASK}),
        ("bound", {"server": SERVER, "arrivals": ARRIVALS}),
        ("work", {"server": SERVER, "arrivals": ARRIVALS}),
        ("ages", {"server": SERVER, "arrivals": ARRIVALS, "standing": STANDING}),
        ("judge_word", {"server": SERVER, "arrivals": ARRIVALS, "standing": STANDING, "number": 0}),
    ),
    beams: (
        ("best_outcomes", {**ASKING, "number": 3}),
        ("beam_outcome", {**ASKING, "width": 2}),
        ("judge_beam", {**ASKING, "width": 1}),
        ("beam_holds", {**ASKING, "width": 1, "thing": ("best",)}),
    ),
    journals: (
        ("journal_after", {"server": SERVER, "arrivals": ARRIVALS, "steps": 3}),
        ("is_journal", {"server": SERVER, "arrivals": ARRIVALS, "thing": JOURNAL}),
        ("gone_on", {"server": SERVER, "arrivals": ARRIVALS, "journal": JOURNAL, "step": 2}),
        ("shown", {"server": SERVER, "arrivals": ARRIVALS, "journal": JOURNAL}),
    ),
    counting: (
        ("period", DRAFTED),
        ("reach", DRAFTED),
        ("counted", {**DRAFTED, "base": 2, "length": 3}),
        ("counted_server", {"server": SERVER, "arrivals": ARRIVALS, "base": 2, "lengths": (2, 1)}),
    ),
    traces: (
        ("model_text", {"model": LAST}),
        ("vocabulary_text", {"vocabulary": PAIRS}),
        ("read_model", {"text": "window 3 1\ndefault 1 2 1\nafter 1: 0 1 3"}),
        ("read_vocabulary", {"text": "letters ab\nmerge 1 2"}),
        ("trace_of", {"server": SERVER, "arrivals": ARRIVALS}),
        ("judge_trace", {"server": SERVER, "arrivals": ARRIVALS, "thing": TRACE}),
    ),
}
FITTING = (grammars.bound_weights, grammars.mask_weights, grammars.write_bound, grammars.write_masked,
           grammars.round_bound, grammars.bound_chances, grammars.masked_chances, grammars.judge_mask)
READING = (traces.read_model, traces.read_vocabulary)
CALLS = [(getattr(module, name), given) for module, rows in INTERFACE.items() for name, given in rows]


def within_reason(thing):
    """Tell whether thing has no number that may be right, but is so far beyond the limits that a call would not end."""
    return "0" * 39 not in repr(thing)


def are_plain(value):
    """Tell whether value consists of integers, strings, bools, None and tuples."""
    if type(value) is tuple:
        return all(map(are_plain, value))
    return value is None or type(value) in (int, str, bool)


class Conventions(Case):

    def check_error(self, error, function, args):
        """Check that the error is one that the function may raise, and that it carries one of the arguments."""
        if type(error) is NoFit:
            self.assertIn(function, FITTING)
        elif type(error) is BadLine:
            self.assertIn(function, READING)
        else:
            # This may be a right one: what is a model or a vocabulary after all makes others wrong.
            self.assertIn(id(error.thing), [id(value) for value in args.values()])

    def test_names_and_parameters(self):
        for module, rows in INTERFACE.items():
            for name, given in rows:
                function = getattr(module, name)
                self.assertTrue(inspect.isfunction(function))
                self.assertEqual(function.__module__, module.__name__)
                parameters = inspect.signature(function).parameters.values()
                self.assertEqual([parameter.name for parameter in parameters], list(given))
                for parameter in parameters:
                    self.assertIs(parameter.kind, inspect.Parameter.POSITIONAL_OR_KEYWORD)
                    self.assertIs(parameter.default, inspect.Parameter.empty)

    def test_by_position_and_by_name(self):
        for function, given in CALLS:
            right = function(*given.values())
            self.same(function(**given), right)
            self.same(function(**dict(reversed(given.items()))), right)
            first = next(iter(given))
            rest = {name: given[name] for name in given if name != first}
            self.same(function(given[first], **rest), right)

    def test_results_are_plain_and_hang_on_the_arguments_alone(self):
        right = [function(**given) for function, given in CALLS]
        self.assertTrue(all(map(are_plain, right)))
        for function, given in reversed(CALLS):
            function(**copy.deepcopy(given))
        self.same([function(**copy.deepcopy(given)) for function, given in CALLS], right)

    def test_of_several_wrong_arguments_the_first_one_is_told(self):
        for function, given in CALLS:
            names = [name for name in given if name != "thing"]
            for at, name in enumerate(names):
                wrong = [["wrong"], {"a": 1}, "Wrong!"]
                args = {**given, **{other: wrong[k % 3] for k, other in enumerate(names) if k >= at}}
                with self.assertRaises(DraftError) as caught:
                    function(**args)
                if function in READING:
                    self.same(vars(caught.exception), {"at": 0})
                else:
                    self.assertIs(caught.exception.thing, args[name])

    def test_no_argument_is_changed(self):
        for function, given in CALLS:
            for name in given:
                for odd in filter(within_reason, [*ODD, list(given.values()), [[1], [2]], {"a": [1]}]):
                    args = {**given, name: odd}
                    before = repr(args)
                    try:
                        function(**args)
                    except DraftError as error:
                        self.check_error(error, function, args)
                    self.assertEqual(repr(args), before)

    def test_any_value_gives_a_result_or_an_error_of_the_list(self):
        for function, given in CALLS:
            for name in given:
                for thing in filter(within_reason, spoiled(given[name])):
                    args = {**given, name: thing}
                    try:
                        self.assertTrue(are_plain(function(**args)))
                    except DraftError as error:
                        self.check_error(error, function, args)

    def test_is_functions_return_true_or_false(self):
        for function, given in CALLS:
            if function.__name__.startswith(("is_", "are_")) or function.__name__.endswith("_holds"):
                for thing in (*ODD, *spoiled(given.get("thing"))):
                    told = function(**{**given, "thing": thing}) if "thing" in given else function(**given)
                    self.assertIn(repr(told), ("True", "False"))

    def test_certificates_are_tuples_of_the_stated_length(self):
        for function, given in CALLS:
            if function.__name__.startswith("judge_") and "thing" in given:
                for thing in (*ODD, *spoiled(given["thing"])):
                    told = function(**{**given, "thing": thing})
                    long = 3 if function is traces.judge_trace else 2
                    self.assertIn((type(told), len(told), told[0]),
                                  ((tuple, 1, "right"), (tuple, long, "wrong"), (tuple, 1, "none")))


if __name__ == "__main__":
    unittest.main()
