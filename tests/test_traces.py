"""Traces of runs and their certificates [12.2], [12.3]."""

import random
import unittest

import by_hand_journals
import drawn
from draftward.errors import BadArrivals, BadServer
from draftward.servers import ended
from draftward.traces import judge_trace, trace_of
from samples import ODD, Case, spoiled

COIN = ("window", 3, 0, (), (1, 2, 1))
EVEN = ("window", 3, 0, (), (1, 1, 1))
LETTERS = ("vocabulary", "ab", ())
ENDS = ("grammar", 2, 0, (1,), ((0, "a", 0), (0, "b", 1)))
ROW = (EVEN, (), (("row", 2),))
ASK = ("request", (1,), 1, (), None, None, (3,))
HUGE = ("request", (1,) * 12, 40, (), None, None, ())
FULL = ("request", (2, 1, 1), 3, (("least", 1),), ROW, ENDS, (5, 0, 3, 1, 2))


def asking(prompt, most, tape=(), **more):
    return ("request", prompt, most, (), more.get("drafting"), more.get("grammar"), tape)


def serving(many=8, places=2, chunk=1, table=(("go",),), vocabulary=None):
    return (COIN, vocabulary, many, places, chunk, table)


SERVER = serving(2, 2, 2)
ARRIVALS = ((0, ASK),)
TRACE = ((("admitted", 0, 0), ("works", 0, (1,))), (("round", 0, (2,), "most"),))


class Traces(Case):

    def test_that_of_the_document(self):
        self.same(trace_of(SERVER, ARRIVALS), TRACE)

    def test_no_arrivals(self):
        self.same(trace_of(SERVER, ()), ())

    def test_steps_in_which_nothing_happens(self):
        self.same(trace_of(SERVER, ((2, ASK),)), ((), (), *TRACE))
        self.same(trace_of(SERVER, ((3, HUGE),)), ((), (), (), (("refused", 0),)))

    def test_a_refusal_and_one_that_is_not_admitted_yet(self):
        # Number 2 has no entry before it is admitted; number 3 is refused only then.
        arrivals = ((0, HUGE), (0, ASK), (0, asking((1, 1), 2, (3, 0))), (0, HUGE))
        self.same(trace_of(SERVER, arrivals), (
            (("refused", 0), ("admitted", 1, 0), ("works", 1, (1,))),
            (("round", 1, (2,), "most"),),
            (("admitted", 2, 0), ("refused", 3), ("works", 2, (1, 1))),
            (("round", 2, (2,), None),),
            (("works", 2, (2,)),),
            (("round", 2, (), "end"),)))

    def test_words(self):
        server = serving(table=(("go", "wait", "lose"), ("lose", "lose", "wait")))
        arrivals = ((0, asking((1, 2), 1, (1,))), (0, asking((2,), 1, (3,))), (0, asking((1, 1), 1, (0,))))
        self.same(trace_of(server, arrivals)[:3], (
            # What keeps nothing loses and waits, too.
            (("admitted", 0, 0), ("admitted", 1, 0), ("admitted", 2, 0), ("works", 0, (1,)), ("waits", 1), ("loses", 2)),
            (("works", 0, (2,)), ("loses", 1), ("waits", 2)),
            (("round", 0, (1,), "most"), ("waits", 1), ("loses", 2))))

    def test_works_by_chunks(self):
        arrivals = ((0, asking((1, 2, 1, 1, 2), 1, (1,))),)
        for chunk, right in ((1, [1, 1, 1, 1, 1]), (2, [2, 2, 1]), (3, [3, 2]), (4, [4, 1]), (9, [5])):
            works = [entry for entries in trace_of(serving(chunk=chunk), arrivals) for entry in entries if entry[0] == "works"]
            self.same([len(entry[2]) for entry in works], right)
            self.same(sum((entry[2] for entry in works), ()), (1, 2, 1, 1, 2))

    def test_shared_pairs(self):
        arrivals = ((0, asking((1, 2, 1, 1, 2), 2, (1, 1, 1))), (5, asking((1, 2, 1, 1), 1, (1,))),
                    (5, asking((1, 2, 1, 1, 1), 1, (1,))))
        trace = trace_of(serving(12), arrivals)
        self.same(trace[5], (("admitted", 1, 2), ("admitted", 2, 4), ("round", 0, (1,), None), ("works", 1, (1,)), ("works", 2, (1,))))

    def test_a_round_of_several_tokens_and_one_of_none(self):
        arrivals = ((0, asking((1,), 4, (1, 1, 0, 0, 3, 0, 2, 2), drafting=ROW)),)
        trace = trace_of(serving(chunk=4), arrivals)
        self.same(trace, ((("admitted", 0, 0), ("works", 0, (1,))), (("round", 0, (1, 1, 2), None),),
                          (("works", 0, (1, 1, 2)),), (("round", 0, (), "end"),)))

    def test_as_by_hand(self):
        source = random.Random(123)
        for _ in range(200):
            server = drawn.some_server(source)
            arrivals = drawn.some_arrivals(source, server)
            trace = trace_of(server, arrivals)
            self.same(trace, by_hand_journals.trace(server, arrivals))
            self.assertEqual(len(trace), ended(server, arrivals)[0])


class Certificates(Case):

    def check(self, server, arrivals, thing):
        right = by_hand_journals.trace_certificate(by_hand_journals.trace(server, arrivals), thing)
        self.same(judge_trace(server, arrivals, thing), right)
        return right[0]

    def test_that_of_the_document(self):
        self.same(judge_trace(SERVER, ARRIVALS, ((("admitted", 0, 0),),)), ("wrong", 0, 1))

    def test_the_trace_itself(self):
        self.same(judge_trace(SERVER, ARRIVALS, TRACE), ("right",))
        self.same(judge_trace(SERVER, (), ()), ("right",))
        self.same(judge_trace(thing=TRACE, arrivals=ARRIVALS, server=SERVER), ("right",))

    def test_no_tuple_of_tuples(self):
        for thing in (None, 0, True, "", "trace", [], {}, list(TRACE), (None,), (TRACE[0], None), (list(TRACE[0]), TRACE[1]),
                      (TRACE[0], list(TRACE[1])), (*TRACE, 0), (0, *TRACE), ((), "a"), TRACE[0] + ("x",), [()]):
            self.same(judge_trace(SERVER, ARRIVALS, thing), ("none",))

    def test_steps_that_lack_or_are_too_many(self):
        self.same(judge_trace(SERVER, ARRIVALS, ()), ("wrong", 0, 0))
        self.same(judge_trace(SERVER, ARRIVALS, TRACE[:1]), ("wrong", 1, 0))
        for more in ((), ((),), (("waits", 0),), (None,), ("a", 1)):
            self.same(judge_trace(SERVER, ARRIVALS, (*TRACE, more)), ("wrong", 2, 0))
        self.same(judge_trace(SERVER, ARRIVALS, (*TRACE, (), ())), ("wrong", 2, 0))
        self.same(judge_trace(SERVER, (), ((),)), ("wrong", 0, 0))
        # A difference that comes earlier is the first one.
        self.same(judge_trace(SERVER, ARRIVALS, (TRACE[0], (), ())), ("wrong", 1, 0))
        self.same(judge_trace(SERVER, ARRIVALS, (TRACE[0][:1],)), ("wrong", 0, 1))

    def test_entries_that_lack_or_are_too_many(self):
        self.same(judge_trace(SERVER, ARRIVALS, (TRACE[0][:1], TRACE[1])), ("wrong", 0, 1))
        self.same(judge_trace(SERVER, ARRIVALS, ((), TRACE[1])), ("wrong", 0, 0))
        self.same(judge_trace(SERVER, ARRIVALS, (TRACE[0] + TRACE[1], TRACE[1])), ("wrong", 0, 2))
        self.same(judge_trace(SERVER, ARRIVALS, (TRACE[0], TRACE[1] * 2)), ("wrong", 1, 1))
        self.same(judge_trace(SERVER, ARRIVALS, (TRACE[0], ())), ("wrong", 1, 0))
        self.same(judge_trace(SERVER, ARRIVALS, (TRACE[0][::-1], TRACE[1])), ("wrong", 0, 0))

    def test_entries_that_differ(self):
        for entry in (("works", 0, (True,)), ("works", False, (1,)), ("works", 0, [1]), ["works", 0, (1,)], ("works", 0, (2,)),
                      ("works", 0, ()), ("works", 0, (1, 1)), ("works", 0), ("works", 0, (1,), None), ("waits", 0), None, (), 0):
            self.same(judge_trace(SERVER, ARRIVALS, ((TRACE[0][0], entry), TRACE[1])), ("wrong", 0, 1))
        for entry in (("round", 0, (2,), None), ("round", 0, (2,), "end"), ("round", 0, (2,)), ("round", 0, (2,), "most", 1),
                      ("round", 1, (2,), "most"), ("round", 0, (1,), "most"), "round"):
            self.same(judge_trace(SERVER, ARRIVALS, (TRACE[0], (entry,))), ("wrong", 1, 0))
        for entry in (("admitted", 0, 1), ("admitted", 0, False), ("admitted", 0), ("refused", 0)):
            self.same(judge_trace(SERVER, ARRIVALS, ((entry, TRACE[0][1]), TRACE[1])), ("wrong", 0, 0))

    def test_any_values(self):
        arrivals = ((0, HUGE), *ARRIVALS, (2, ASK))
        for thing in (*ODD, *spoiled(trace_of(SERVER, arrivals))):
            self.check(SERVER, arrivals, thing)

    def test_any_values_of_drawn_runs(self):
        source = random.Random(124)
        seen = {"right": 0, "wrong": 0, "none": 0}
        while sum(seen.values()) < 3000:
            server = drawn.some_server(source)
            arrivals = drawn.some_arrivals(source, server)
            trace = trace_of(server, arrivals)
            seen[self.check(server, arrivals, trace)] += 1
            things = list(spoiled(trace))
            for thing in source.sample(things, min(len(things), 40)):
                seen[self.check(server, arrivals, thing)] += 1
        self.assertGreater(min(seen.values()), 40)


class Errors(Case):

    def test_the_server_comes_first(self):
        for server in (*ODD, list(SERVER), SERVER[:5], (*SERVER[:4], True, SERVER[5])):
            self.fails(BadServer, server, trace_of, server, None)
            self.fails(BadServer, server, judge_trace, server, None, None)

    def test_then_the_arrivals(self):
        for arrivals in (None, [], [(0, ASK)], ((-1, ASK),), ((True, ASK),), ((1, ASK), (0, ASK)), ((0, FULL),), (ASK,), 0, {}):
            self.fails(BadArrivals, arrivals, trace_of, SERVER, arrivals)
            self.fails(BadArrivals, arrivals, judge_trace, SERVER, arrivals, TRACE)

    def test_beyond_the_limits(self):
        arrivals = tuple((step, asking((1, 2) * 6, 20, (1,) * 12 + (0,))) for step in range(0, 48, 6))
        server = serving(40, 9, 9, (("go", "wait", "lose", "go", "go", "wait"),) * 7, LETTERS)
        trace = trace_of(server, arrivals)
        self.same(judge_trace(server, arrivals, trace), ("right",))
        self.assertEqual(len(trace), ended(server, arrivals)[0])


if __name__ == "__main__":
    unittest.main()
