"""How long requests take, how long they wait, and how much is worked out [8.1], [8.2], [8.3]."""

import itertools
import random
import unittest

import by_hand
import drawn
from draftward.errors import BadArrivals, BadRequest, BadServer, BadStanding, Refused
from draftward.schedules import ages, bound, bound_of, judge_word, work
from draftward.servers import begun, ended, need, stepped_once
from samples import ODD, Case

COIN = ("window", 3, 0, (), (1, 2, 1))
EVEN = ("window", 3, 0, (), (1, 1, 1))
LETTERS = ("vocabulary", "ab", ())
ENDS = ("grammar", 2, 0, (1,), ((0, "a", 0), (0, "b", 1)))
ROW = (EVEN, (), (("row", 2),))
ASK = ("request", (1,), 1, (), None, None, (3,))
HUGE = ("request", (1,) * 12, 40, (), None, None, ())
FULL = ("request", (2, 1, 1), 3, (("least", 1),), ROW, ENDS, (5, 0, 3, 1, 2))
WORDS = (("go", "wait", "lose"), ("wait", "go"), ("lose",))


def asking(prompt, most, tape=(), **more):
    """Return a request; least is how many tokens its answer has at least."""
    settings = (("least", more["least"]),) if "least" in more else ()
    return ("request", prompt, most, settings, more.get("drafting"), more.get("grammar"), tape)


def serving(many=8, places=2, chunk=1, table=(("go",),), vocabulary=None):
    return (COIN, vocabulary, many, places, chunk, table)


SERVER = serving(2, 2, 2, (("wait", "lose"), ("go",)))
TWO = ((0, ASK), (0, ASK))


class Bounds(Case):

    def test_those_of_the_document(self):
        self.same([bound_of(SERVER, ASK), bound(SERVER, TWO)], [3, 7])

    def test_of_a_request(self):
        for length, most, chunk in itertools.product(range(1, 6), range(1, 6), range(1, 5)):
            # As many chunks as hold the prompt and the answer, and two steps for each token of the answer.
            right = len(range(0, length + most, chunk)) + 2 * most
            self.same(bound_of(serving(chunk=chunk), asking((1,) * length, most)), right)
        self.same(bound_of(serving(chunk=10 ** 39), asking((1,), 1)), 3)
        self.same(bound_of(serving(vocabulary=LETTERS), FULL), 12)

    def test_a_request_that_is_refused(self):
        for many, places in ((1, 1), (2, 2), (1, 3)):
            fits, over = asking((1,), many * places), asking((1,), many * places + 1)
            self.same(bound_of(serving(many, places), fits), 1 + 3 * many * places)
            self.fails(Refused, over, bound_of, serving(many, places), over)
            self.fails(Refused, over, bound_of, request=over, server=serving(many, places))

    def test_of_arrivals(self):
        self.same(bound(SERVER, ()), 1)
        self.same(bound(SERVER, ((0, ASK),)), 4)
        self.same(bound(SERVER, ((5, ASK),)), 9)
        self.same(bound(SERVER, ((2, ASK), (5, ASK), (5, ASK))), 15)

    def test_refused_ones_count_by_their_step_alone(self):
        self.same(bound(SERVER, ((0, HUGE),)), 1)
        self.same(bound(SERVER, ((0, ASK), (7, HUGE))), 11)
        self.same(bound(SERVER, ((0, HUGE), (7, ASK))), 11)

    def test_all_outcomes_are_there_after_so_many_steps_at_most(self):
        source = random.Random(81)
        for _ in range(200):
            server = drawn.some_server(source)
            arrivals = drawn.some_arrivals(source, server)
            self.same(bound(server, arrivals), by_hand.most_steps(server, arrivals))
            self.assertLessEqual(ended(server, arrivals)[0], bound(server, arrivals))
            for _, request in arrivals:
                if need(server, request) <= server[2]:
                    self.same(bound_of(server, request), by_hand.most_steps_of(server, request))

    def test_and_so_from_every_standing(self):
        source = random.Random(82)
        for _ in range(200):
            server = drawn.some_server(source)
            arrivals = drawn.some_arrivals(source, server)
            standing = drawn.some_standing(source, server, arrivals)
            for _ in range(by_hand.most_steps(server, arrivals, standing)):
                standing = stepped_once(server, arrivals, standing)
            self.assertEqual([number for number, _ in standing[3]], list(range(len(arrivals))))

    def test_the_first_active_request_ends_within_its_bound(self):
        for word in ("wait", "lose"):
            for request in (asking((1, 2, 1), 3, (1, 2, 1)), asking((1,) * 5, 1), asking((2,), 4, (1,) * 4)):
                for chunk in (1, 2, 3):
                    server = serving(40, 2, chunk, ((word,),))
                    self.assertLessEqual(ended(server, ((0, request),))[0], bound_of(server, request))


class Ages(Case):

    def run_of(self, server, arrivals):
        """Return all standings from the beginning until all arrivals have outcomes."""
        found = [begun(server, arrivals)]
        while len(found[-1][3]) < len(arrivals):
            found.append(stepped_once(server, arrivals, found[-1]))
        return found

    def test_from_the_first_active_request_on(self):
        server = serving(table=WORDS)
        arrivals = ((0, asking((1,) * 3, 2, (1, 1))), (0, ASK), (0, asking((2,), 2, (1, 1))), (9, ASK))
        self.same([ages(server, arrivals, standing) for standing in self.run_of(server, arrivals)][:4],
                  [(), ((0, 0), (1, 1), (2, 2)), ((0, 0), (1, 1), (2, 2)), ((0, 0), (1, 1), (2, 2))])

    def test_positions_close_up(self):
        server = serving()
        arrivals = ((0, ASK), (0, asking((1, 1), 1)), (0, asking((1, 1, 1), 1)))
        self.same([ages(server, arrivals, standing) for standing in self.run_of(server, arrivals)],
                  [(), ((0, 0), (1, 1), (2, 2)), ((1, 0), (2, 1)), ((2, 0),), ()])

    def test_active_ones_in_any_order(self):
        arrivals = ((0, asking((1, 1), 1)), (0, asking((2, 2), 1)), (0, asking((2, 1), 1)))
        pool = (2, (None,) * 8, ((0, ()), (2, ())))
        standing = (4, pool, ((2, (), 0, 0), (0, (), 0, 0)), ((1, ((), "end")),))
        self.same(ages(serving(), arrivals, standing), ((2, 0), (0, 1)))
        self.same(ages(standing=standing, server=serving(), arrivals=arrivals), ((2, 0), (0, 1)))

    def test_no_active_ones(self):
        self.same(ages(SERVER, (), begun(SERVER, ())), ())
        self.same(ages(SERVER, TWO, begun(SERVER, TWO)), ())

    def test_an_age_never_grows(self):
        source = random.Random(83)
        for _ in range(100):
            server = drawn.some_server(source)
            arrivals = drawn.some_arrivals(source, server)
            before = {}
            for standing in self.run_of(server, arrivals):
                now = dict(ages(server, arrivals, standing))
                self.same(list(now.items()), [(row[0], at) for at, row in enumerate(standing[2])])
                for number in set(now) & set(before):
                    self.assertLessEqual(now[number], before[number])
                before = now

    def test_it_is_0_after_the_bounds_of_those_before(self):
        source = random.Random(84)
        for _ in range(100):
            server = drawn.some_server(source)
            arrivals = drawn.some_arrivals(source, server)
            for standing in self.run_of(server, arrivals)[:8]:
                for number, age in ages(server, arrivals, standing):
                    earlier = [row[0] for row in standing[2][:age]]
                    after = standing
                    for _ in range(sum(bound_of(server, arrivals[k][1]) for k in earlier)):
                        after = stepped_once(server, arrivals, after)
                    self.assertEqual(dict(ages(server, arrivals, after)).get(number, 0), 0)


class Work(Case):

    def test_that_of_the_document(self):
        self.same(work(SERVER, TWO), 2)

    def test_no_work(self):
        self.same(work(SERVER, ()), 0)
        self.same(work(SERVER, ((0, HUGE), (3, HUGE))), 0)

    def test_all_tokens_before_the_last_round(self):
        for chunk in (1, 2, 3, 4):
            self.same(work(serving(chunk=chunk), ((0, asking((1, 2, 1), 2, (1, 1))),)), 4)
            self.same(work(serving(chunk=chunk), ((0, asking((1, 2, 1), 9, (1, 1, 0))),)), 5)
            self.same(work(serving(chunk=chunk), ((0, asking((1, 2, 1), 9)),)), 3)
        # Of a row of tokens the rounds before the last one are worked out.
        self.same(work(serving(), ((0, asking((1,), 4, (1, 1, 0, 0, 3, 3), drafting=ROW)),)), 4)

    def test_what_is_lost_is_worked_out_again(self):
        arrivals = ((0, asking((2,) * 8, 1)), (0, asking((1, 1), 1)))
        self.same(work(serving(), arrivals), 10)
        # The second one works, loses and works; then it waits until it is the first one.
        table = (("go",), ("go", "lose"), ("go",), ("go", "lose"), *[("go", "wait")] * 5)
        self.same(work(serving(table=table), arrivals), 12)

    def test_shared_pages(self):
        long = asking((1, 2, 1, 1, 2), 3, (1, 1, 1), least=3)
        for shared, prompt in ((4, (1, 2, 1, 1, 1)), (4, (1, 2, 1, 1, 2)), (2, (1, 2, 1, 1)), (2, (1, 2, 2, 1)), (0, (2, 1, 1)),
                               (0, (1, 2))):
            arrivals = ((0, long), (5, asking(prompt, 1, (1,))))
            self.same(work(serving(12), arrivals), 7 + len(prompt) - shared)

    def test_as_by_hand(self):
        source = random.Random(85)
        for _ in range(150):
            server = drawn.some_server(source)
            arrivals = drawn.some_arrivals(source, server)
            _, steps = by_hand.run(server, arrivals)
            right = sum(len(entry[2]) for entries in steps for entry in entries if entry[0] == "works")
            self.same(work(server, arrivals), right)

    def test_with_a_table_of_go_alone(self):
        source = random.Random(86)
        for _ in range(100):
            model, vocabulary, many, places, chunk, _ = drawn.some_server(source)
            server = (model, vocabulary, many, places, chunk, (("go",), ("go", "go")))
            arrivals = drawn.some_arrivals(source, server)
            admitted = [entry for entries in by_hand.run(server, arrivals)[1] for entry in entries if entry[0] == "admitted"]
            right = 0
            for _, number, shared in admitted:
                request = arrivals[number][1]
                before, _ = by_hand.course(model, vocabulary, request)
                right += len(request[1]) + len(before[-1][0]) - shared
            self.same(work(server, arrivals), right)


class Words(Case):

    def test_those_of_the_document(self):
        first = begun(SERVER, TWO)
        self.same([judge_word(SERVER, TWO, first, 0), judge_word(SERVER, TWO, first, 1)], ["go", "lose"])

    def test_the_first_active_request_goes_on(self):
        for word in ("go", "wait", "lose"):
            server = serving(table=((word,),))
            standing = stepped_once(server, TWO, begun(server, TWO))
            self.same([judge_word(server, TWO, standing, number) for number in (0, 1)], ["go", word])

    def test_rows_and_positions_modulo_their_numbers(self):
        one = asking((1,) * 9, 1, (1,))
        arrivals = ((0, one),) * 4
        server = serving(40, 1, 1, (("lose", "go"), ("go", "wait", "lose")))
        standing = begun(server, arrivals)
        for right in (["go", "go", "lose", "go"], ["go", "wait", "lose", "go"], ["go", "go", "lose", "go"]):
            self.same([judge_word(server, arrivals, standing, number) for number in range(4)], right)
            standing = stepped_once(server, arrivals, standing)

    def test_one_that_is_admitted_in_this_very_step(self):
        server = serving(table=WORDS)
        arrivals = ((0, asking((1,) * 9, 1)), (2, ASK))
        first = begun(server, arrivals)
        self.same(judge_word(server, arrivals, first, 0), "go")
        standing = first
        for step in range(3):
            if step < 2:
                self.fails(BadRequest, 1, judge_word, server, arrivals, standing, 1)
            else:
                self.same(judge_word(server, arrivals, standing, 1), "lose")
            standing = stepped_once(server, arrivals, standing)

    def test_one_that_waits_for_its_turn(self):
        server = serving(2, table=WORDS)
        arrivals = ((0, ASK), (0, asking((1, 1), 2)), (0, ASK))
        first = begun(server, arrivals)
        self.same(judge_word(server, arrivals, first, 0), "go")
        for number in (1, 2):
            self.fails(BadRequest, number, judge_word, server, arrivals, first, number)

    def test_one_that_has_an_outcome(self):
        arrivals = ((0, ASK), (0, HUGE), (0, ASK))
        standing = begun(serving(), arrivals)
        self.fails(BadRequest, 1, judge_word, serving(), arrivals, standing, 1)
        standing = stepped_once(serving(), arrivals, stepped_once(serving(), arrivals, standing))
        for number in range(3):
            self.fails(BadRequest, number, judge_word, serving(), arrivals, standing, number)

    def test_any_values(self):
        standing = stepped_once(SERVER, TWO, begun(SERVER, TWO))
        for number in (*ODD, (0, 1), [0], "0", "1", 3, -1):
            if repr(number) in ("0", "1"):
                self.same(judge_word(SERVER, TWO, standing, number), "go")
            else:
                self.fails(BadRequest, number, judge_word, SERVER, TWO, standing, number)

    def test_as_the_next_step_does(self):
        source = random.Random(87)
        for _ in range(150):
            server = drawn.some_server(source)
            arrivals = drawn.some_arrivals(source, server)
            standing = drawn.some_standing(source, server, arrivals)
            told = []
            by_hand.step(server, arrivals, standing, told)
            words = {"waits": "wait", "loses": "lose", "works": "go", "round": "go"}
            right = {entry[1]: words[entry[0]] for entry in told if entry[0] in words}
            for number in range(-1, len(arrivals) + 1):
                if number in right:
                    self.same(judge_word(server, arrivals, standing, number), right[number])
                else:
                    self.fails(BadRequest, number, judge_word, server, arrivals, standing, number)


class Errors(Case):

    def test_the_server_comes_first(self):
        for server in (*ODD, list(SERVER), SERVER[:5], (*SERVER[:2], True, *SERVER[3:]), (*SERVER[:5], [("go",)])):
            self.fails(BadServer, server, bound_of, server, None)
            self.fails(BadServer, server, bound, server, None)
            self.fails(BadServer, server, work, server, None)
            self.fails(BadServer, server, ages, server, None, None)
            self.fails(BadServer, server, judge_word, server, None, None, None)

    def test_then_the_request(self):
        for request in (*ODD, list(ASK), ASK[:6], (*ASK[:2], 0, *ASK[3:]), (*ASK[:2], True, *ASK[3:]), FULL):
            self.fails(BadRequest, request, bound_of, SERVER, request)

    def test_then_the_arrivals(self):
        for arrivals in (None, [], [(0, ASK)], ((-1, ASK),), ((True, ASK),), ((1, ASK), (0, ASK)), ((0, FULL),), (ASK,), 0, {}):
            self.fails(BadArrivals, arrivals, bound, SERVER, arrivals)
            self.fails(BadArrivals, arrivals, work, SERVER, arrivals)
            self.fails(BadArrivals, arrivals, ages, SERVER, arrivals, None)
            self.fails(BadArrivals, arrivals, judge_word, SERVER, arrivals, None, None)

    def test_then_the_standing(self):
        right = begun(SERVER, TWO)
        for standing in (*ODD, list(right), right[:3], (True, *right[1:]), (-1, *right[1:]), (*right[:2], [], right[3])):
            self.fails(BadStanding, standing, ages, SERVER, TWO, standing)
            self.fails(BadStanding, standing, judge_word, SERVER, TWO, standing, None)

    def test_by_name(self):
        first = begun(SERVER, TWO)
        self.same(bound(arrivals=TWO, server=SERVER), 7)
        self.same(work(arrivals=TWO, server=SERVER), 2)
        self.same(judge_word(number=1, standing=first, arrivals=TWO, server=SERVER), "lose")

    def test_beyond_the_limits(self):
        arrivals = tuple((step, asking((1, 2) * 6, 20, (1,) * 12 + (0,))) for step in range(0, 48, 6))
        server = serving(40, 9, 9, (("go", "wait", "lose", "go", "go", "wait"),) * 7)
        self.same(bound(server, arrivals), 42 + 8 * 44 + 1)
        self.assertLessEqual(ended(server, arrivals)[0], bound(server, arrivals))
        self.same(work(server, arrivals), sum(len(entry[2]) for entries in by_hand.run(server, arrivals)[1]
                                              for entry in entries if entry[0] == "works"))


if __name__ == "__main__":
    unittest.main()
