"""The errors: which there are, from what they derive, and what they carry."""

import inspect
import unittest

from draftward import errors
from draftward.errors import BadLine, DraftError, NoFit
from samples import ALL_ERRORS, ERRORS_WITH_THING, ODD


class Errors(unittest.TestCase):

    def test_base_class(self):
        self.assertEqual(DraftError.__bases__, (Exception,))

    def test_all_are_direct_subclasses_and_there_are_no_others(self):
        self.assertEqual(len(ALL_ERRORS), 27)
        for name in ALL_ERRORS:
            self.assertEqual(getattr(errors, name).__bases__, (DraftError,))
            self.assertEqual(getattr(errors, name).__module__, "draftward.errors")
        found = [name for name, value in vars(errors).items() if inspect.isclass(value)]
        self.assertEqual(sorted(found), sorted([*ALL_ERRORS, "DraftError"]))

    def test_parameters_are_attributes_that_carry_any_value(self):
        for name in ERRORS_WITH_THING:
            error = getattr(errors, name)
            for thing in (*ODD, error, object()):
                self.assertIs(error(thing).thing, thing)
                self.assertIs(error(thing=thing).thing, thing)

    def test_bad_line_has_at(self):
        for at in ODD:
            self.assertIs(BadLine(at).at, at)
            self.assertIs(BadLine(at=at).at, at)
            self.assertFalse(hasattr(BadLine(at), "thing"))

    def test_no_fit_has_no_parameter(self):
        self.assertEqual(vars(NoFit()), {})

    def test_they_are_raised_and_caught_by_name_and_as_draft_errors(self):
        for name in ALL_ERRORS:
            error = getattr(errors, name)
            for caught in (error, DraftError):
                with self.assertRaises(caught):
                    raise error() if error is NoFit else error([1])

    def test_each_with_a_parameter_defines_it_itself(self):
        for name in ALL_ERRORS:
            if name != "NoFit":
                own = list(inspect.signature(vars(getattr(errors, name))["__init__"]).parameters)
                self.assertEqual(own, ["self", "at" if name == "BadLine" else "thing"])

    def test_each_can_be_shown(self):
        for name in ERRORS_WITH_THING:
            for thing in ODD:
                self.assertIsInstance(str(getattr(errors, name)(thing)), str)


if __name__ == "__main__":
    unittest.main()
