"""The examples of the document, word for word."""

import doctest
import unittest

from draftward.errors import DraftError

TOKENS = """
>>> from draftward.tokens import judge_tokens, piece, size, to_text, to_tokens, trained
>>> PAIRS = trained(("aab", "ab"), 2)
>>> [PAIRS, size(PAIRS), piece(PAIRS, 0), piece(PAIRS, 3), to_tokens(PAIRS, "aabab"), to_text(PAIRS, (3, 1, 0))]
[('vocabulary', 'ab', ((1, 2),)), 4, '', 'ab', (1, 3, 3), 'aba']
>>> [judge_tokens(PAIRS, "aab", (1, 3)), judge_tokens(PAIRS, "aab", (1, 1, 2)), judge_tokens(PAIRS, "aab", (1,)), judge_tokens(PAIRS, "aab", (9,))]
[('right',), ('wrong', 1), ('wrong', 1), ('none',)]
"""

MODELS = """
>>> from draftward.models import is_model, judge_rows, model_size, model_weights, rows_of, stepped
>>> LAST = ("window", 3, 1, (((1,), (0, 1, 3)),), (1, 2, 1))
>>> [is_model(LAST), model_size(LAST), model_weights(LAST, (2,)), model_weights(LAST, (2, 1)), rows_of(LAST, (2, 1)), stepped(LAST, ((2,),), 1)]
[True, 3, (1, 2, 1), (0, 1, 3), ((2,), (1,)), ((1,), (0, 1, 3))]
>>> ONE = ((1,),)
>>> NET = ("net", 2, 1, ((1,), (2,)), ((0,),), ((ONE, ONE, ONE, ONE),), ((0,), (1,)))
>>> [model_weights(NET, (1,)), rows_of(NET, (1,)), stepped(NET, rows_of(NET, (1,)), 0), judge_rows(NET, (1, 0), rows_of(NET, (1,)))]
[(4, 64), ((((2,), (2,)),),), ((((1,), (1,)),), (16, 64)), ('wrong', 1)]
"""

WRITER = """
>>> from draftward.writer import draw, next_weights, plain_chance, plain_chances, write_plain
>>> COIN = ("window", 3, 0, (), (1, 2, 1))
>>> [next_weights(COIN, (), (1,), 0), next_weights(COIN, (("power", 2), ("greatest", 2)), (1,), 0), next_weights(COIN, (("ban", (0, 2)), ("seen", 3, 1)), (1,), 0), next_weights(COIN, (("share", 1, 2),), (2,), 1)]
[(1, 2, 1), (1, 4, 0), (0, 6, 0), (0, 2, 0)]
>>> [draw((1, 2, 1), (6, 7), 0), draw((1, 2, 1), (6, 7), 1), draw((1, 2, 1), (6, 7), 2), write_plain(COIN, (), (1,), 3, (1, 3, 4))]
[(1, 1), (2, 2), (0, 3), ((1, 2), 'end', 3)]
>>> plain_chances(COIN, (), (1,), 1)
((((), 'end'), (1, 4)), (((1,), 'most'), (1, 2)), (((2,), 'most'), (1, 4)))
>>> plain_chance(COIN, (), (1,), 2, ((1,), 'end'))
(1, 8)
"""

PAGES = """
>>> from draftward.pages import added, cleared, copied, free_pages, is_true, joined, kept, new_pool
>>> LAST = ("window", 3, 1, (((1,), (0, 1, 3)),), (1, 2, 1))
>>> ONE = added(LAST, added(LAST, joined(LAST, new_pool(LAST, 3, 2), 0, (1, 2, 1)), 0, 1, (1,)), 0, 2, (2,))
>>> [ONE, joined(LAST, ONE, 1, (1, 2, 1))[2], joined(LAST, ONE, 1, (1, 2))[2], kept(LAST, ONE, 0), free_pages(LAST, ONE), is_true(LAST, ONE)]
[(2, (((1, (1,)), (2, (2,))), None, None), ((0, (0,)),)), ((0, (0,)), (1, (0,))), ((0, (0,)), (1, ())), ((1, (1,)), (2, (2,))), 2, True]
>>> TWO = copied(LAST, added(LAST, ONE, 0, 1, (1,)), 0, 7)
>>> [TWO[2], added(LAST, TWO, 7, 2, (2,))[1:], cleared(LAST, TWO, 0)[2], added(LAST, added(LAST, TWO, 7, 2, (2,)), 7, 2, (2,))]
[((0, (0, 1)), (7, (0, 1))), ((((1, (1,)), (2, (2,))), ((1, (1,)),), ((1, (1,)), (2, (2,)))), ((0, (0, 1)), (7, (0, 2)))), ((7, (0, 1)),), None]
"""

SERVERS = """
>>> from draftward.servers import begun, ended, is_server, need, stepped_once
>>> COIN = ("window", 3, 0, (), (1, 2, 1))
>>> SERVER = (COIN, None, 2, 2, 2, (("go",),))
>>> ASK = ("request", (1,), 1, (), None, None, (3,))
>>> [is_server(SERVER), need(SERVER, ASK), begun(SERVER, ((0, ASK),)), stepped_once(SERVER, ((0, ASK),), begun(SERVER, ((0, ASK),)))]
[True, 1, (0, (2, (None, None), ()), (), ()), (1, (2, (((1, (1,)),), None), ((0, (0,)),)), ((0, (), 0, 0),), ())]
>>> LONG = ("request", (1, 1), 4, (), None, None, ())
>>> ended(SERVER, ((0, ASK), (0, LONG), (1, ASK)))
(3, ((0, ((2,), 'most')), (1, ('refused',)), (2, ((2,), 'most'))))
"""

DRAFTS = """
>>> from draftward.drafts import drafted_chances, gain, mean_rounds, rest, round_of, write_drafted
>>> COIN = ("window", 3, 0, (), (1, 2, 1))
>>> EVEN = ("window", 3, 0, (), (1, 1, 1))
>>> ROW = (EVEN, (), (("row", 2),))
>>> [rest((1, 2, 1), (1, 1, 1)), gain(COIN, (), ROW, (1,), 0), drafted_chances(COIN, (), ROW, (1,), 1)]
[(0, 2, 0), (5, 6), ((((), 'end'), (1, 4)), (((1,), 'most'), (1, 2)), (((2,), 'most'), (1, 4)))]
>>> [round_of(COIN, (), ROW, (1,), 4, (), (1, 2, 0, 3, 0), 0, 0), round_of(COIN, (), ROW, (1,), 4, (), (1, 2, 0, 2, 3), 0, 0), write_drafted(COIN, (), None, (1,), 2, (3, 1)), mean_rounds(COIN, (), None, (1,), 1)]
[((1, 1), None, 5), ((1, 2, 2), None, 5), ((2, 1), 'most', 2, 2), (1, 1)]
"""

GRAMMARS = """
>>> from draftward.grammars import bound_chances, bound_weights, ending, judge_mask, mask_weights, masked_chances, state_after
>>> COIN = ("window", 3, 0, (), (1, 2, 1))
>>> LETTERS = ("vocabulary", "ab", ())
>>> ENDS = ("grammar", 2, 0, (1,), ((0, "a", 0), (0, "b", 1)))
>>> [state_after(ENDS, "aab"), state_after(ENDS, "ba"), ending(COIN, (), LETTERS, ENDS, (1,), 2, (1,)), ending(COIN, (), LETTERS, ENDS, (1,), 2, ())]
[1, None, (1, 4), (3, 16)]
>>> [bound_weights(COIN, (), LETTERS, ENDS, (1,), 2, ()), mask_weights(COIN, (), LETTERS, ENDS, (1,), 2, ()), bound_chances(COIN, (), LETTERS, ENDS, (1,), 2)]
[(0, 2, 1), (0, 2, 1), ((((1, 2), 'most'), (2, 3)), (((2,), 'end'), (1, 3)))]
>>> [masked_chances(COIN, (), LETTERS, ENDS, (1,), 2), judge_mask(COIN, (), LETTERS, ENDS, (1,), 2), judge_mask(COIN, (), LETTERS, ENDS, (1,), 3)]
[((((1, 2), 'most'), (2, 3)), (((2,), 'end'), (1, 3))), ('exact',), ('unlike', ((1, 1, 2), 'most'), ((2,), 'end'))]
"""

SCHEDULES = """
>>> from draftward.schedules import bound, bound_of, judge_word, work
>>> from draftward.servers import begun
>>> COIN = ("window", 3, 0, (), (1, 2, 1))
>>> SERVER = (COIN, None, 2, 2, 2, (("wait", "lose"), ("go",)))
>>> ASK = ("request", (1,), 1, (), None, None, (3,))
>>> TWO = ((0, ASK), (0, ASK))
>>> [bound_of(SERVER, ASK), bound(SERVER, TWO), work(SERVER, TWO), judge_word(SERVER, TWO, begun(SERVER, TWO), 0), judge_word(SERVER, TWO, begun(SERVER, TWO), 1)]
[3, 7, 2, 'go', 'lose']
"""

BEAMS = """
>>> from draftward.beams import beam_outcome, best_outcomes, judge_beam
>>> LURE = ("window", 3, 1, (((1,), (0, 3, 2)), ((2,), (8, 1, 1))), (1, 1, 1))
>>> best_outcomes(LURE, (), (1,), 2, 2)
((((1, 1), 'most'), (9, 25)), (((2,), 'end'), (8, 25)))
>>> [beam_outcome(LURE, (), (1,), 3, 1), beam_outcome(LURE, (), (1,), 3, 2), judge_beam(LURE, (), (1,), 3, 1)]
[(((1, 1, 1), 'most'), (27, 125)), (((2,), 'end'), (8, 25)), ('missed', ((2,), 'end'))]
"""

JOURNALS = """
>>> from draftward.journals import gone_on, is_journal, journal_after, shown
>>> COIN = ("window", 3, 0, (), (1, 2, 1))
>>> SERVER = (COIN, ("vocabulary", "ab", ()), 2, 2, 2, (("go",),))
>>> ASK = ("request", (1,), 2, (), None, None, (3, 1))
>>> [journal_after(SERVER, ((0, ASK),), 2), journal_after(SERVER, ((0, ASK),), 9), shown(SERVER, ((0, ASK),), ((0, (2,), None, 1),))]
[((0, (2,), None, 1),), ((0, (2,), None, 1), (0, (1,), 'most', 2)), ('b',)]
>>> [gone_on(SERVER, ((0, ASK),), ((0, (2,), None, 1),), 5), is_journal(SERVER, ((0, ASK),), ((0, (1,), None, 1),))]
[(5, (2, (None, None), ((0, ()),)), ((0, (2,), 1, 1),), ()), False]
"""

COUNTING = """
>>> from draftward.counting import counted, period, reach
>>> COIN = ("window", 3, 0, (), (1, 2, 1))
>>> EVEN = ("window", 3, 0, (), (1, 1, 1))
>>> ROW = (EVEN, (), (("row", 1),))
>>> [period(COIN, (), None, (1,), 1), reach(COIN, (), None, (1,), 2), counted(COIN, (), None, (1,), 1, 4, 1)]
[4, 2, ((((), 'end'), 1), (((1,), 'most'), 2), (((2,), 'most'), 1))]
>>> [period(COIN, (), ROW, (1,), 1), reach(COIN, (), ROW, (1,), 1), counted(COIN, (), ROW, (1,), 1, 12, 3)]
[12, 3, ((((), 'end'), 432), (((1,), 'most'), 864), (((2,), 'most'), 432))]
"""

TRACES = r"""
>>> from draftward.traces import judge_trace, model_text, read_model, read_vocabulary, trace_of, vocabulary_text
>>> LAST = ("window", 3, 1, (((), (1, 1, 1)), ((1,), (0, 1, 3))), (1, 2, 1))
>>> [model_text(LAST), read_model(model_text(LAST)) == LAST, vocabulary_text(("vocabulary", "ab", ((1, 2),)))]
['window 3 1\ndefault 1 2 1\nafter: 1 1 1\nafter 1: 0 1 3', True, 'letters ab\nmerge 1 2']
>>> read_vocabulary("letters ab\nmerge 1 9")
raises BadLine(at=2)
>>> COIN = ("window", 3, 0, (), (1, 2, 1))
>>> SERVER = (COIN, None, 2, 2, 2, (("go",),))
>>> ASK = ("request", (1,), 1, (), None, None, (3,))
>>> [trace_of(SERVER, ((0, ASK),)), judge_trace(SERVER, ((0, ASK),), ((("admitted", 0, 0),),))]
[((('admitted', 0, 0), ('works', 0, (1,))), (('round', 0, (2,), 'most'),)), ('wrong', 0, 1)]
"""


def raised_by(call):
    """Print what the document writes of the error that the call raises."""
    try:
        call()
    except DraftError as error:
        given = ", ".join(f"{name}={value!r}" for name, value in vars(error).items())
        print(f"raises {error.__class__.__name__}({given})")


class Examples(unittest.TestCase):

    def check(self, text, name, many):
        test = doctest.DocTestParser().get_doctest(text, {"raised_by": raised_by}, name, None, 0)
        self.assertEqual(len(test.examples), many)
        for example in test.examples:
            if example.want.startswith("raises "):
                example.source = f"raised_by(lambda: {example.source.strip()})\n"
        report = []
        failed, tried = doctest.DocTestRunner(verbose=False).run(test, out=report.append)
        self.assertEqual(tried, many)
        self.assertEqual(failed, 0, "".join(report))

    def test_tokens(self):
        self.check(TOKENS, "tokens", 4)

    def test_models(self):
        self.check(MODELS, "models", 6)

    def test_writer(self):
        self.check(WRITER, "writer", 6)

    def test_pages(self):
        self.check(PAGES, "pages", 6)

    def test_servers(self):
        self.check(SERVERS, "servers", 7)

    def test_drafts(self):
        self.check(DRAFTS, "drafts", 6)

    def test_grammars(self):
        self.check(GRAMMARS, "grammars", 7)

    def test_schedules(self):
        self.check(SCHEDULES, "schedules", 7)

    def test_beams(self):
        self.check(BEAMS, "beams", 4)

    def test_journals(self):
        self.check(JOURNALS, "journals", 6)

    def test_counting(self):
        self.check(COUNTING, "counting", 6)

    def test_traces(self):
        self.check(TRACES, "traces", 8)


if __name__ == "__main__":
    unittest.main()
