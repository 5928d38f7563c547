"""Counted tapes, periods and reaches [11.1], [11.2], [11.3]."""

import itertools
import math
import random
import unittest
from fractions import Fraction

import by_hand
import by_hand_chances
import drawn
from draftward.counting import counted, counted_server, period, reach
from draftward.drafts import drafted_chances, write_drafted
from draftward.errors import BadArrivals, BadDrafting, BadLengths, BadModel, BadNumber, BadPrompt, BadServer, BadSettings
from draftward.grammars import bound_chances
from draftward.servers import ended
from draftward.writer import plain_chances
from samples import ODD, Case

COIN = ("window", 3, 0, (), (1, 2, 1))
EVEN = ("window", 3, 0, (), (1, 1, 1))
NEVER = ("window", 3, 0, (), (0, 1, 1))
FIRST = ("window", 3, 0, (), (0, 1, 0))
LAST = ("window", 3, 1, (((1,), (0, 1, 4)),), (1, 2, 1))
PAIR = ("window", 2, 0, (), (1, 1))
LETTERS = ("vocabulary", "ab", ())
ENDS = ("grammar", 2, 0, (1,), ((0, "a", 0), (0, "b", 1)))
ROW = (EVEN, (), (("row", 1),))
SEVERAL = (EVEN, (), (("several", 2),))
PLANS = ((("row", 1),), (("row", 2),), (("several", 1),), (("several", 2),), (("row", 1), ("several", 1)))

GIVEN = {"model": COIN, "settings": (), "drafting": ROW, "prompt": (1,), "most": 2}
FAULTS = (
    (BadModel, "model", (None, [], list(COIN), "net", ("window", 3, 0, (), (True, 2, 1)))),
    (BadSettings, "settings", (None, [], (("power", 0),), (("ban", (3,)),), (("least", True),), [("least", 1)])),
    (BadDrafting, "drafting", ((), [], False, 0, "None", (EVEN, ()), (PAIR, (), (("row", 1),)), (EVEN, (), ()),
                               (EVEN, (), (("row", True),)), list(ROW))),
    (BadPrompt, "prompt", (None, (), (0,), (3,), [1], (True,), (1, 0), "1")),
    (BadNumber, "most", (None, -1, True, False, "3", (3,), -(10 ** 39))),
)
BASES = (None, 0, -1, True, False, "1", (1,), [1], {}, -(10 ** 39))
SIZES = (None, -1, True, False, "0", (0,), [0], {}, -(10 ** 39))


def some_asking(source, most=2, sizes=(2, 3)):
    """Return (model, settings, drafting, prompt, most), drafting perhaps None."""
    size = source.choice(sizes)
    drafting = drawn.some_drafting(source, size) if source.random() < 0.7 else None
    return (drawn.some_model(source, size), drawn.some_settings(source, size), drafting, drawn.some_prompt(source, size),
            source.randint(0, most))


def writers_of(model, settings, drafting, prompt, most):
    return by_hand.writers_of(model, None, ("request", prompt, most, settings, drafting, None, ()))


class Periods(Case):

    def test_those_of_the_document(self):
        self.same([period(COIN, (), None, (1,), 1), reach(COIN, (), None, (1,), 2)], [4, 2])
        self.same([period(COIN, (), ROW, (1,), 1), reach(COIN, (), ROW, (1,), 1)], [12, 3])

    def test_no_draws(self):
        for drafting in (None, ROW, SEVERAL):
            self.same([period(COIN, (), drafting, (1,), 0), reach(COIN, (), drafting, (1,), 0)], [1, 0])

    def test_plain_ones(self):
        self.same([period(FIRST, (), None, (1,), most) for most in (1, 2, 3)], [1, 1, 1])
        self.same([reach(FIRST, (), None, (1,), most) for most in (1, 2, 3)], [1, 2, 3])
        # Behind 1 the draw is below 5, otherwise below 4.
        self.same([period(LAST, (), None, prompt, 1) for prompt in ((1,), (2,))], [5, 4])
        self.same([period(LAST, (), None, prompt, 2) for prompt in ((1,), (2,))], [20, 20])
        # Where nothing can come behind a token, no draw is made there.
        self.same(period(LAST, (("ban", (1,)),), None, (2,), 3), 2)
        self.same(reach(COIN, (("ban", (1, 2)),), None, (1,), 3), 1)

    def test_totals_of_tries_count(self):
        # Draws below 3 by the draft, and below 4 * 1 for the try, and below 2 by the rest.
        self.same(period(COIN, (), (EVEN, (), (("several", 1),)), (1,), 1), 12)
        self.same(reach(COIN, (), (EVEN, (), (("several", 1),)), (1,), 1), 3)
        self.same(reach(COIN, (), SEVERAL, (1,), 1), 5)
        # A draft that equals the model has every token kept: no rest is drawn by.
        self.same(reach(COIN, (), (COIN, (), (("several", 4),)), (1,), 1), 2)
        self.same(period(COIN, (), (COIN, (), (("several", 4),)), (1,), 1), 8)

    def test_the_reach_of_rows(self):
        row = (NEVER, (), (("row", 4),))
        self.same([reach(NEVER, (), row, (1,), most) for most in (1, 2, 3, 4, 5)], [2, 4, 6, 8, 9])
        # Of a row of one whose token is not kept there are three draws for one token.
        self.same([reach(COIN, (), ROW, (1,), most) for most in (1, 2, 3)], [3, 6, 9])

    def test_as_by_hand(self):
        source = random.Random(111)
        for _ in range(250):
            given = some_asking(source, 3, (2, 3, 4))
            _, _, right, far = by_hand_chances.all_runs(*writers_of(*given), given[4])
            self.same(period(*given), right)
            self.same(reach(*given), far)

    def test_no_run_draws_more_and_some_run_draws_as_many(self):
        source = random.Random(112)
        for _ in range(60):
            given = some_asking(source)
            whole, far = period(*given), reach(*given)
            if whole ** far <= 3000:
                used = [write_drafted(*given, tape)[2] for tape in itertools.product(range(whole), repeat=far)]
                self.assertEqual(max(used), far)


class Counts(Case):

    def test_those_of_the_document(self):
        self.same(counted(COIN, (), None, (1,), 1, 4, 1), ((((), "end"), 1), (((1,), "most"), 2), (((2,), "most"), 1)))
        self.same(counted(COIN, (), ROW, (1,), 1, 12, 3), ((((), "end"), 432), (((1,), "most"), 864), (((2,), "most"), 432)))

    def test_base_1_and_length_0(self):
        for drafting in (None, ROW, SEVERAL):
            # There is one tape, of which every draw is 0.
            outcome = write_drafted(COIN, (), drafting, (1,), 2, ())[:2]
            for base, length in ((1, 0), (1, 1), (1, 7), (2, 0), (2000, 0), (1, 2000), (1, 10 ** 39), (10 ** 39, 0)):
                self.same(counted(COIN, (), drafting, (1,), 2, base, length), ((outcome, 1),))

    def test_no_draws(self):
        for base, length in ((1, 0), (3, 2), (2000, 1), (1, 9)):
            self.same(counted(COIN, (), ROW, (1,), 0, base, length), ((((), "most"), base ** length),))

    def test_tapes_that_are_longer_than_the_reach(self):
        right = counted(COIN, (), None, (1,), 1, 4, 1)
        for more in (1, 2, 4):
            self.same(counted(COIN, (), None, (1,), 1, 4, 1 + more),
                      tuple((outcome, many * 4 ** more) for outcome, many in right))

    def test_tapes_that_are_shorter_than_the_reach(self):
        # The second draw is always 0, the end token.
        self.same(counted(COIN, (), None, (1,), 2, 4, 1), ((((), "end"), 1), (((1,), "end"), 2), (((2,), "end"), 1)))
        self.same(counted(COIN, (("ban", (0,)),), None, (1,), 2, 3, 1), ((((1, 1), "most"), 2), (((2, 1), "most"), 1)))

    def test_a_base_that_the_period_does_not_divide(self):
        self.same(counted(COIN, (), None, (1,), 1, 5, 1), ((((), "end"), 2), (((1,), "most"), 2), (((2,), "most"), 1)))
        self.same(counted(COIN, (), None, (1,), 1, 3, 1), ((((), "end"), 1), (((1,), "most"), 2)))

    def test_as_by_hand(self):
        source = random.Random(113)
        for _ in range(150):
            given = some_asking(source, 3, (2, 3, 4))
            base = source.randint(1, 6)
            length = source.randint(0, 6 if base < 3 else 3)
            right = by_hand_chances.counted(*writers_of(*given), given[4], base, length)
            self.same(counted(*given, base, length), right)
            self.assertEqual(sum(many for _, many in right), base ** length)

    def test_the_count_is_the_chance(self):
        seen = {True: 0, False: 0}
        source = random.Random(114)
        for _ in range(400):
            given = model, settings, drafting, prompt, most = some_asking(source)
            whole, far = period(*given), reach(*given)
            for times, more in ((1, 0), (2, 0), (1, 1)):
                base, length = whole * times, far + more
                if base ** length <= 2000:
                    seen[drafting is None] += 1
                    found = counted(*given, base, length)
                    self.same(tuple((outcome, by_hand.pair(Fraction(many, base ** length))) for outcome, many in found),
                              plain_chances(model, settings, prompt, most))
                    self.same(drafted_chances(*given), plain_chances(model, settings, prompt, most))
        self.assertGreater(min(seen.values()), 40)

    def test_with_drafts_and_without(self):
        for plan in PLANS:
            drafting = (EVEN, (), plan)
            whole, far = period(NEVER, (), drafting, (1,), 1), reach(NEVER, (), drafting, (1,), 1)
            base = math.lcm(whole, period(NEVER, (), None, (1,), 1))
            self.same(counted(NEVER, (), drafting, (1,), 1, base, far), counted(NEVER, (), None, (1,), 1, base, far))

    def test_at_the_limits(self):
        four = ("window", 4, 1, (((1,), (5, 0, 3, 2)),), (1, 2, 3, 4))
        for base, length in ((2000, 1), (44, 2), (12, 3), (2, 10), (3, 6)):
            for plan in ((("several", 4),), (("row", 4),), (("row", 1), ("several", 2), ("row", 3))):
                given = (four, (("power", 2),), (four, (("least", 2),), plan), (1,), 3)
                found = counted(*given, base, length)
                self.assertEqual(sum(many for _, many in found), base ** length)
                tape = tuple(7 % base for _ in range(length))
                self.assertIn(write_drafted(*given, tape)[:2], dict(found))
        net = ("net", 3, 1, ((1,), (2,), (-1,)), ((0,), (1,)), ((((1,),),) * 4,), ((0,), (1,), (2,)))
        found = counted(net, (), (net, (), (("row", 2),)), (1,), 3, 14, 2)
        self.same(found, by_hand_chances.counted(*writers_of(net, (), (net, (), (("row", 2),)), (1,), 3), 3, 14, 2))


class Servers(Case):

    def brute(self, server, arrivals, base, lengths):
        """Return what counted_server returns, by a run of the server for each row of tapes."""
        many = {}
        tapes = [list(itertools.product(range(base), repeat=length)) for length in lengths]
        for row in itertools.product(*tapes):
            given = tuple((step, (*request[:6], tape)) for (step, request), tape in zip(arrivals, row))
            outcomes = tuple(outcome for _, outcome in ended(server, given)[1])
            many[outcomes] = many.get(outcomes, 0) + 1
        return tuple(sorted(many.items()))

    def test_two_alike(self):
        server = (COIN, None, 2, 2, 2, (("go",),))
        ask = ("request", (1,), 1, (), None, None, (3,))
        alone = counted(COIN, (), None, (1,), 1, 4, 1)
        right = tuple(((one, other), many * more) for one, many in alone for other, more in alone)
        self.same(counted_server(server, ((0, ask), (0, ask)), 4, (1, 1)), right)
        self.same(counted_server(server, ((0, ask),), 4, (1,)), tuple(((one,), many) for one, many in alone))

    def test_no_arrivals(self):
        server = (COIN, None, 2, 2, 2, (("go",),))
        for base in (1, 2, 10 ** 39):
            self.same(counted_server(server, (), base, ()), (((), 1),))

    def test_a_refused_request_counts_with_all_its_tapes(self):
        server = (COIN, None, 2, 2, 2, (("go",),))
        huge = ("request", (1,), 40, (), None, None, ())
        ask = ("request", (1,), 1, (), None, None, (3,))
        self.same(counted_server(server, ((0, huge),), 3, (4,)), (((("refused",),), 81),))
        self.same(counted_server(server, ((0, huge), (0, ask), (5, huge)), 3, (2, 1, 1)), (
            ((("refused",), ((), "end"), ("refused",)), 27), ((("refused",), ((1,), "most"), ("refused",)), 54)))

    def test_a_request_with_a_grammar(self):
        server = (COIN, LETTERS, 4, 2, 2, (("go",),))
        ask = ("request", (1,), 2, (), None, ENDS, ())
        found = counted_server(server, ((0, ask),), 3, (2,))
        self.same(found, (((((1, 2), "most"),), 6), ((((2,), "end"),), 3)))
        self.same(tuple((outcome, by_hand.pair(Fraction(many, 9))) for (outcome,), many in found),
                  bound_chances(COIN, (), LETTERS, ENDS, (1,), 2))

    def test_unlike_lengths_and_tapes_of_their_own(self):
        server = (COIN, None, 8, 2, 1, (("wait", "lose"), ("go",)))
        arrivals = tuple((step, ("request", (1, 2), 2, (), drafting, None, tape))
                         for step, drafting, tape in ((0, None, (9, 9)), (0, ROW, ()), (2, SEVERAL, (1,))))
        for lengths in ((0, 0, 0), (1, 0, 2), (0, 3, 1), (2, 2, 0), (1, 1, 1)):
            self.same(counted_server(server, arrivals, 4, lengths), self.brute(server, arrivals, 4, lengths))

    def test_whatever_the_table_does(self):
        source = random.Random(115)
        for _ in range(80):
            server = drawn.some_server(source)
            arrivals = drawn.some_arrivals(source, server)[:3]
            base = source.randint(1, 4)
            lengths = [source.randint(0, 2) for _ in arrivals]
            while base ** sum(lengths) > 100:
                lengths[source.randrange(len(lengths))] = 0
            found = counted_server(server, arrivals, base, tuple(lengths))
            self.same(found, self.brute(server, arrivals, base, lengths))
            other = (*server[:5], drawn.some_table(source))
            self.same(counted_server(other, arrivals, base, tuple(lengths)), found)

    def test_they_are_the_products_of_the_counts_alone(self):
        source = random.Random(116)
        for _ in range(80):
            model, _, _, places, chunk, table = drawn.some_server(source)
            server = (model, None, 12, places, chunk, table)
            arrivals = drawn.some_arrivals(source, server)[:3]
            base = source.randint(1, 4)
            lengths = tuple(source.randint(0, 2) for _ in arrivals)
            right = [((), 1)]
            for (_, request), length in zip(arrivals, lengths):
                _, prompt, most, settings, drafting, _, _ = request
                alone = counted(model, settings, drafting, prompt, most, base, length)
                right = [((*outcomes, outcome), many * more) for outcomes, many in right for outcome, more in alone]
            self.same(counted_server(server, arrivals, base, lengths), tuple(right))

    def test_at_the_limits(self):
        four = ("window", 4, 1, (((1,), (5, 0, 3, 2)),), (1, 2, 3, 4))
        server = (four, ("vocabulary", "abc", ()), 12, 4, 4, (("go", "wait", "lose"),))
        grammar = ("grammar", 2, 0, (0, 1), ((0, "b", 1), (1, "a", 0), (1, "c", 1)))
        request = ("request", (1, 2), 3, (), (four, (), (("row", 4), ("several", 4))), grammar, ())
        free = ("request", (2,), 3, (), None, None, (1, 2, 3))
        arrivals = ((0, request), (0, free), (3, request))
        for base, lengths in ((300, (1, 0, 0)), (2, (2, 3, 3)), (6, (1, 1, 1)), (17, (0, 1, 1))):
            found = counted_server(server, arrivals, base, lengths)
            self.assertEqual(sum(many for _, many in found), base ** sum(lengths))
            self.same(found, tuple(sorted(found)))
        self.same(counted_server(server, arrivals, 2, (2, 3, 3)), self.brute(server, arrivals, 2, (2, 3, 3)))


class Errors(Case):

    def test_each_comes_before_those_behind_it(self):
        for function, more in ((period, {}), (reach, {}), (counted, {"base": None, "length": None})):
            for at, (error, name, wrong) in enumerate(FAULTS):
                for thing in wrong:
                    later = {other: "Wrong" for _, other, _ in FAULTS[at + 1:]}
                    self.fails(error, thing, function, **{**GIVEN, **later, **more, name: thing})
                    self.fails(error, thing, function, *{**GIVEN, name: thing, **more}.values())

    def test_bases_and_lengths(self):
        for base in BASES:
            self.fails(BadNumber, base, counted, **GIVEN, base=base, length=None)
            self.fails(BadNumber, base, counted, **{**GIVEN, "most": 0}, base=base, length=0)
        for length in SIZES:
            self.fails(BadNumber, length, counted, **GIVEN, base=2, length=length)
            self.fails(BadNumber, length, counted, **{**GIVEN, "most": 0}, base=1, length=length)

    def test_servers(self):
        server = (COIN, None, 2, 2, 2, (("go",),))
        ask = ("request", (1,), 1, (), None, None, (3,))
        arrivals = ((0, ask), (0, ask))
        for wrong in (*ODD, list(server), server[:5], (*server[:4], True, server[5])):
            self.fails(BadServer, wrong, counted_server, wrong, None, None, None)
        for wrong in (None, [], [(0, ask)], ((-1, ask),), ((True, ask),), ((1, ask), (0, ask)), (ask,), 0, {}):
            self.fails(BadArrivals, wrong, counted_server, server, wrong, None, None)
        for base in BASES:
            self.fails(BadNumber, base, counted_server, server, arrivals, base, None)
            self.fails(BadNumber, base, counted_server, lengths=(1, 1), base=base, arrivals=arrivals, server=server)
        for lengths in (None, (), (1,), (1, 1, 1), [1, 1], (1, -1), (-1, 1), (True, 1), (1, False), (1, None), ("1", 1), 2, "11",
                        ((1,), 1), (1, [1]), {0: 1, 1: 1}, (1, (1,))):
            self.fails(BadLengths, lengths, counted_server, server, arrivals, 2, lengths)
        for lengths in (None, (0,), [], 0, ((),), {}):
            self.fails(BadLengths, lengths, counted_server, server, (), 2, lengths)

    def test_beyond_the_limits(self):
        self.same(counted(COIN, (), None, (1,), 4, 4, 7)[0], (((), "end"), 4 ** 6))
        self.same(sum(many for _, many in counted(COIN, (), None, (1,), 3, 5000, 1)), 5000)
        self.same(counted(COIN, (), None, (1,), 2, 3, 60)[0], (((), "end"), 3 ** 59))
        # Of 5, 4, .., 1 drafted tokens the first one is not kept: as many draws, and two more.
        self.same(reach(COIN, (), (EVEN, (), (("row", 6),)), (1,), 5), 25)


if __name__ == "__main__":
    unittest.main()
