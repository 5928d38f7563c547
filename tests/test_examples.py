"""The examples of the document, word for word."""

import doctest
import unittest

TOKENS = """
>>> from draftward.tokens import judge_tokens, piece, size, to_text, to_tokens, trained
>>> PAIRS = trained(("aab", "ab"), 2)
>>> [PAIRS, size(PAIRS), piece(PAIRS, 0), piece(PAIRS, 3), to_tokens(PAIRS, "aabab"), to_text(PAIRS, (3, 1, 0))]
[('vocabulary', 'ab', ((1, 2),)), 4, '', 'ab', (1, 3, 3), 'aba']
>>> [judge_tokens(PAIRS, "aab", (1, 3)), judge_tokens(PAIRS, "aab", (1, 1, 2)), judge_tokens(PAIRS, "aab", (1,)), judge_tokens(PAIRS, "aab", (9,))]
[('right',), ('wrong', 1), ('wrong', 1), ('none',)]
"""

MODELS = """
>>> from draftward.models import is_model, judge_rows, model_size, model_weights, rows_of, stepped
>>> LAST = ("window", 3, 1, (((1,), (0, 1, 3)),), (1, 2, 1))
>>> [is_model(LAST), model_size(LAST), model_weights(LAST, (2,)), model_weights(LAST, (2, 1)), rows_of(LAST, (2, 1)), stepped(LAST, ((2,),), 1)]
[True, 3, (1, 2, 1), (0, 1, 3), ((2,), (1,)), ((1,), (0, 1, 3))]
>>> ONE = ((1,),)
>>> NET = ("net", 2, 1, ((1,), (2,)), ((0,),), ((ONE, ONE, ONE, ONE),), ((0,), (1,)))
>>> [model_weights(NET, (1,)), rows_of(NET, (1,)), stepped(NET, rows_of(NET, (1,)), 0), judge_rows(NET, (1, 0), rows_of(NET, (1,)))]
[(4, 64), ((((2,), (2,)),),), ((((1,), (1,)),), (16, 64)), ('wrong', 1)]
"""


class Examples(unittest.TestCase):

    def check(self, text, name, many):
        test = doctest.DocTestParser().get_doctest(text, {}, name, None, 0)
        self.assertEqual(len(test.examples), many)
        report = []
        failed, tried = doctest.DocTestRunner(verbose=False).run(test, out=report.append)
        self.assertEqual(tried, many)
        self.assertEqual(failed, 0, "".join(report))

    def test_tokens(self):
        self.check(TOKENS, "tokens", 4)

    def test_models(self):
        self.check(MODELS, "models", 6)


if __name__ == "__main__":
    unittest.main()
