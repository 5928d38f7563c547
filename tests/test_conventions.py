"""The conventions that hold for all functions of the interface [0.2], for those that are there."""

import copy
import inspect
import unittest

from draftward import models, tokens
from draftward.errors import DraftError
from samples import ODD, Case, spoiled

LAST = ("window", 3, 1, (((1,), (0, 1, 3)),), (1, 2, 1))
ONE = ((1,),)
NET = ("net", 2, 1, ((1,), (2,)), ((0,),), ((ONE, ONE, ONE, ONE),), ((0,), (1,)))
PAIRS = ("vocabulary", "ab", ((1, 2),))

INTERFACE = {
    tokens: (
        ("is_vocabulary", {"thing": PAIRS}),
        ("size", {"vocabulary": PAIRS}),
        ("piece", {"vocabulary": PAIRS, "token": 3}),
        ("to_tokens", {"vocabulary": PAIRS, "text": "aab"}),
        ("to_text", {"vocabulary": PAIRS, "tokens": (1, 3)}),
        ("judge_tokens", {"vocabulary": PAIRS, "text": "aab", "thing": (1, 3)}),
        ("trained", {"texts": ("aab", "ab"), "n": 2}),
    ),
    models: (
        ("is_model", {"thing": NET}),
        ("model_size", {"model": NET}),
        ("model_weights", {"model": NET, "tokens": (1, 0)}),
        ("rows_of", {"model": NET, "tokens": (1, 0)}),
        ("stepped", {"model": NET, "rows": ((((2,), (2,)),),), "token": 0}),
        ("judge_rows", {"model": LAST, "tokens": (1, 0), "thing": ((1,), (0,))}),
    ),
}
CALLS = [(getattr(module, name), given) for module, rows in INTERFACE.items() for name, given in rows]


def are_plain(value):
    """Tell whether value consists of integers, strings, bools, None and tuples."""
    if type(value) is tuple:
        return all(map(are_plain, value))
    return value is None or type(value) in (int, str, bool)


class Conventions(Case):

    def test_names_and_parameters(self):
        for module, rows in INTERFACE.items():
            for name, given in rows:
                function = getattr(module, name)
                self.assertTrue(inspect.isfunction(function))
                self.assertEqual(function.__module__, module.__name__)
                parameters = inspect.signature(function).parameters.values()
                self.assertEqual([parameter.name for parameter in parameters], list(given))
                for parameter in parameters:
                    self.assertIs(parameter.kind, inspect.Parameter.POSITIONAL_OR_KEYWORD)
                    self.assertIs(parameter.default, inspect.Parameter.empty)

    def test_by_position_and_by_name(self):
        for function, given in CALLS:
            right = function(*given.values())
            self.same(function(**given), right)
            self.same(function(**dict(reversed(given.items()))), right)
            first = next(iter(given))
            rest = {name: given[name] for name in given if name != first}
            self.same(function(given[first], **rest), right)

    def test_results_are_plain_and_hang_on_the_arguments_alone(self):
        right = [function(**given) for function, given in CALLS]
        self.assertTrue(all(map(are_plain, right)))
        for function, given in reversed(CALLS):
            function(**copy.deepcopy(given))
        self.same([function(**copy.deepcopy(given)) for function, given in CALLS], right)

    def test_of_several_wrong_arguments_the_first_one_is_told(self):
        for function, given in CALLS:
            names = [name for name in given if name != "thing"]
            for at, name in enumerate(names):
                wrong = [["wrong"], {"a": 1}, None]
                args = {**given, **{other: wrong[k % 3] for k, other in enumerate(names) if k >= at}}
                with self.assertRaises(DraftError) as caught:
                    function(**args)
                self.assertIs(caught.exception.thing, args[name])

    def test_no_argument_is_changed(self):
        for function, given in CALLS:
            for name in given:
                for odd in [*ODD, list(given.values()), [[1], [2]], {"a": [1]}]:
                    args = {**given, name: odd}
                    before = repr(args)
                    try:
                        function(**args)
                    except DraftError as error:
                        self.assertIs(error.thing, odd)
                    self.assertEqual(repr(args), before)

    def test_any_value_gives_a_result_or_an_error_of_the_list(self):
        for function, given in CALLS:
            for name in given:
                for thing in spoiled(given[name]):
                    args = {**given, name: thing}
                    try:
                        self.assertTrue(are_plain(function(**args)))
                    except DraftError as error:
                        # The other arguments may be wrong for what is a vocabulary or a model after all.
                        self.assertIn(id(error.thing), [id(value) for value in args.values()])

    def test_is_functions_return_true_or_false(self):
        for function, given in CALLS:
            if function.__name__.startswith("is_"):
                for thing in (*ODD, *spoiled(given["thing"])):
                    self.assertIn(repr(function(thing)), ("True", "False"))

    def test_certificates_are_tuples_of_the_stated_length(self):
        for function, given in CALLS:
            if function.__name__.startswith("judge_"):
                for thing in (*ODD, *spoiled(given["thing"])):
                    told = function(**{**given, "thing": thing})
                    self.assertIn((type(told), len(told), told[0]),
                                  ((tuple, 1, "right"), (tuple, 2, "wrong"), (tuple, 1, "none")))


if __name__ == "__main__":
    unittest.main()
