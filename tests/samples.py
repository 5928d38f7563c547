"""What several tests need: values of wrong kinds, and a way to spoil a right value in one place."""

import unittest

from draftward import errors

DEEP = ()
for _ in range(9):
    DEEP = (DEEP,)

ODD = (
    None, True, False, 0, 1, -1, 2, 7, 10 ** 39, -(10 ** 39), "", "a", "ab", "a\n", "A", "~ {}", "x" * 300,
    "vocabulary", "window", "net", (), (1,), (True,), (False,), (0, 1), (1, True), ((1, 2),), ("a",), ("a", None),
    [], [1], [()], [1, 2], {}, {"a": 1}, {1: ()}, ((),), DEEP, (1,) * 300,
)

ERRORS_WITH_THING = (
    "BadModel", "BadSettings", "BadDrafting", "BadGrammar", "BadVocabulary", "BadPrompt", "BadNumber", "BadTape",
    "BadTokens", "BadToken", "BadText", "BadTexts", "BadRows", "BadWeights", "BadOutcome", "BadAnswer", "BadSize",
    "BadRequest", "BadLengths", "BadPool", "BadServer", "BadArrivals", "BadStanding", "Refused", "BadJournal",
)
ALL_ERRORS = (*ERRORS_WITH_THING, "NoFit", "BadLine")


def spoiled(value):
    """Yield values that differ from value in one place: a part of another kind, lost, repeated or exchanged."""
    yield from ODD
    if isinstance(value, bool):
        yield int(value)
    elif isinstance(value, int):
        yield from (value - 1, value + 1, -value, bool(value), str(value), (value,))
    elif isinstance(value, str):
        yield from (value + "\n", "\n" + value, value + value, value[:-1], value.upper(), value + "1", tuple(value))
        yield value[::-1]
    elif isinstance(value, tuple):
        yield from spoiled_tuples(value)


def spoiled_tuples(value):
    yield list(value)
    yield value + value
    yield value[::-1]
    yield (*value, None)
    for at, item in enumerate(value):
        before, after = value[:at], value[at + 1:]
        yield before + after
        yield (*before, item, item, *after)
        yield before
        if after:
            yield (*before, after[0], item, *after[1:])
        for other in spoiled(item):
            yield (*before, other, *after)


def is_int(value):
    """Tell whether value is an integer, in other words than the program's."""
    return type(value) is int


class Case(unittest.TestCase):
    """A test case that compares values with their kinds, and errors with what they carry."""

    def same(self, found, right):
        # The text of a value tells True from 1 and a list from a tuple.
        self.assertEqual(repr(found), repr(right))

    def fails(self, error, thing, function, /, *args, **named):
        """Check that the call raises just this error, and that the error carries the very thing."""
        with self.assertRaises(errors.DraftError) as caught:
            function(*args, **named)
        self.assertIs(type(caught.exception), error)
        self.assertIs(caught.exception.thing, thing)
        for name in ALL_ERRORS:
            other = getattr(errors, name)
            self.assertEqual(isinstance(caught.exception, other), other is error)
