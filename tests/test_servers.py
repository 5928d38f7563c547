"""Servers, needs, steps, and that each request has the outcome of its rounds alone [5.1], [5.3], [5.4], [5.5]."""

import itertools
import random
import unittest

import by_hand
import drawn
from draftward.errors import BadArrivals, BadModel, BadRequest, BadServer, BadStanding
from draftward.grammars import alone
from draftward.servers import are_arrivals, begun, ended, is_server, is_standing, need, stepped_once
from samples import ODD, Case, spoiled

COIN = ("window", 3, 0, (), (1, 2, 1))
EVEN = ("window", 3, 0, (), (1, 1, 1))
LETTERS = ("vocabulary", "ab", ())
ENDS = ("grammar", 2, 0, (1,), ((0, "a", 0), (0, "b", 1)))
ROW = (EVEN, (), (("row", 2),))
SERVER = (COIN, None, 2, 2, 2, (("go",),))
BOUND = (COIN, LETTERS, 8, 2, 2, (("go", "wait"), ("lose", "go", "go")))
ASK = ("request", (1,), 1, (), None, None, (3,))
FULL = ("request", (2, 1, 1), 3, (("least", 1),), ROW, ENDS, (5, 0, 3, 1, 2))


def asking(prompt, most, tape=(), **more):
    """Return a request; least is how many tokens its answer has at least."""
    settings = (("least", more["least"]),) if "least" in more else ()
    return ("request", prompt, most, settings, more.get("drafting"), more.get("grammar"), tape)


def serving(many=8, places=2, chunk=1, table=(("go",),), vocabulary=None):
    return (COIN, vocabulary, many, places, chunk, table)


def replaced(server, at, part):
    return (*server[:at], part, *server[at + 1:])


def pairs(*tokens):
    return tuple((token, (token,)) for token in tokens)


class Forms(Case):

    def test_right_ones(self):
        for server in (SERVER, BOUND, serving(1, 1, 1), serving(10 ** 39, 10 ** 39, 10 ** 39),
                       serving(table=(("lose", "wait", "go", "go"),) * 7)):
            self.assertIs(is_server(server), True, server)

    def test_parts(self):
        for at, parts in ((0, (None, list(COIN), "window", ())), (1, ((), False, "ab", list(LETTERS))),
                          (2, (0, -1, True, None, "1", (1,))), (3, (0, -1, True, None, "1", (1,))),
                          (4, (0, -1, True, None, "1", (1,))),
                          (5, ((), ((),), (("go",), ()), [("go",)], (["go"],), ("go",), (("Go",),), (("go", None),), None,
                               (("go", ("go",)),), (("go", "stop"),), ((1,),), (("go",), "go"), (([],),), (({},),)))):
            for part in parts:
                self.assertIs(is_server(replaced(BOUND, at, part)), False, part)
        for server in (BOUND[:5], (*BOUND, None), list(BOUND), None, (), "server", ("server", *BOUND)):
            self.assertIs(is_server(server), False, server)

    def test_a_vocabulary_of_another_size(self):
        for vocabulary in (("vocabulary", "a", ()), ("vocabulary", "ab", ((1, 2),)), ("vocabulary", "abc", ())):
            self.assertIs(is_server(serving(vocabulary=vocabulary)), False)
        self.assertIs(is_server(serving(vocabulary=("vocabulary", "z", ((1, 1),)))), True)

    def test_any_values(self):
        for thing in (*ODD, *spoiled(BOUND)):
            self.assertIs(is_server(thing), by_hand.is_right_server(thing), thing)

    def test_arrivals(self):
        for arrivals in ((), ((0, ASK),), ((0, ASK), (0, ASK)), ((3, ASK), (3, FULL), (7, ASK)), ((10 ** 39, ASK),)):
            self.assertIs(are_arrivals(BOUND, arrivals), True)
        for arrivals in (None, [], [(0, ASK)], ([0, ASK],), ((0,),), ((0, ASK, 0),), ((-1, ASK),), ((True, ASK),),
                         ((None, ASK),), (("0", ASK),), ((1, ASK), (0, ASK)), ((0, ASK), (2, ASK), (1, ASK)), (ASK,), (0, ASK),
                         ((0, list(ASK)),), ((0, ASK[:6]),), ((0, replaced(ASK, 2, 0)),), ((0, replaced(ASK, 1, (3,))),),
                         ((0, None),), (None,), ((0, ASK), None), ((0, ASK), ()), "", 0, {}):
            self.assertIs(are_arrivals(BOUND, arrivals), False, arrivals)

    def test_requests_of_the_model_and_the_vocabulary(self):
        self.assertIs(are_arrivals(SERVER, ((0, FULL),)), False)
        self.assertIs(are_arrivals(SERVER, ((0, replaced(FULL, 5, None)),)), True)
        self.assertIs(are_arrivals(replaced(SERVER, 0, ("window", 2, 0, (), (1, 1))), ((0, FULL),)), False)
        self.assertIs(are_arrivals(BOUND, ((0, asking((1,), 40)),)), True)
        self.assertIs(are_arrivals(BOUND, ((0, asking((1,), 41)),)), False)

    def test_any_values_as_arrivals(self):
        for thing in (*ODD, *spoiled(((2, FULL), (2, ASK)))):
            self.assertIs(are_arrivals(BOUND, thing), by_hand.are_right_arrivals(BOUND, thing), thing)


class Needs(Case):

    def test_needs(self):
        for length, most, places in itertools.product(range(1, 6), range(1, 6), range(1, 5)):
            right = len(range(0, length + most - 1, places))
            self.same(need(serving(places=places), asking((1,) * length, most)), right)

    def test_a_need_of_more_pages_than_there_are(self):
        self.same(need(SERVER, asking((1, 1), 4)), 3)
        self.same(need(serving(1, 1), asking((1, 1), 3)), 4)

    def test_just_the_number_of_pages_and_one_more(self):
        for places in (1, 2, 3):
            for many in (1, 2, 3):
                fits = asking((1,), many * places, (1,) * 20)
                over = asking((1,), many * places + 1, (1,) * 20)
                server = serving(many, places)
                self.same([need(server, fits), need(server, over)], [many, many + 1])
                self.same(ended(server, ((0, fits),))[1], ((0, ((1,) * (many * places), "most")),))
                self.same(ended(server, ((0, over),)), (1, ((0, ("refused",)),)))

    def test_errors(self):
        for server in (*ODD, list(SERVER), SERVER[:5]):
            self.fails(BadServer, server, need, server, None)
        for request in (*ODD, list(ASK), ASK[:6], replaced(ASK, 2, 0), replaced(ASK, 1, ()), FULL):
            self.fails(BadRequest, request, need, SERVER, request)
        self.same(need(request=FULL, server=BOUND), 3)


class Steps(Case):

    def run_of(self, server, arrivals, many):
        """Return the standings from the beginning on, after so many steps."""
        found = [begun(server, arrivals)]
        for _ in range(many):
            found.append(stepped_once(server, arrivals, found[-1]))
            self.assertIs(is_standing(server, arrivals, found[-1]), True)
        return found

    def test_the_beginning(self):
        self.same(begun(SERVER, ()), (0, (2, (None, None), ()), (), ()))
        self.same(begun(arrivals=((0, ASK),), server=serving(3, 4)), (0, (4, (None, None, None), ()), (), ()))

    def test_no_arrivals(self):
        self.same(self.run_of(SERVER, (), 3)[3], (3, (2, (None, None), ()), (), ()))
        self.same(ended(SERVER, ()), (0, ()))

    def test_rows_first_and_then_rounds(self):
        arrivals = ((0, asking((1, 2, 1), 2, (2, 3))),)
        found = self.run_of(serving(chunk=2), arrivals, 6)
        self.same([(standing[2], standing[3]) for standing in found], [
            ((), ()), (((0, (), 0, 0),), ()), (((0, (), 0, 0),), ()), (((0, (1,), 1, 1),), ()), (((0, (1,), 1, 1),), ()),
            ((), ((0, ((1, 2), "most")),)), ((), ((0, ((1, 2), "most")),))])
        self.same([standing[1][1][:3] for standing in found], [
            (None, None, None), (pairs(1, 2), None, None), (pairs(1, 2), pairs(1), None), (pairs(1, 2), pairs(1), None),
            (pairs(1, 2), pairs(1, 1), None), (None, None, None), (None, None, None)])
        self.same(ended(serving(chunk=2), arrivals), (5, ((0, ((1, 2), "most")),)))

    def test_a_chunk_that_is_greater_than_what_lacks(self):
        arrivals = ((0, asking((1, 2, 1), 1, (2,))),)
        for chunk, steps in ((1, 4), (2, 3), (3, 2), (4, 2), (10 ** 39, 2)):
            self.same(ended(serving(chunk=chunk), arrivals), (steps, ((0, ((1,), "most")),)))
        self.same(self.run_of(serving(chunk=9), arrivals, 1)[1][1][1][:3], (pairs(1, 2), pairs(1), None))

    def test_a_round_that_settles_several_tokens(self):
        arrivals = ((0, asking((1,), 4, (1, 1, 0, 0, 3, 3), drafting=ROW)),)
        found = self.run_of(serving(chunk=2), arrivals, 5)
        self.same([standing[2] for standing in found], [
            (), ((0, (), 0, 0),), ((0, (1, 1, 2), 5, 1),), ((0, (1, 1, 2), 5, 1),), ((0, (1, 1, 2), 5, 1),), ()])
        self.same(found[2][1][1][:2], (pairs(1), None))
        self.same(found[3][1][1][:2], (pairs(1, 1), pairs(1)))
        self.same(found[4][1][1][:2], (pairs(1, 1), pairs(1, 2)))
        # Of the last round 0 is drafted, tried, not kept; and 1 is drawn by the rest.
        self.same(found[5][3], ((0, by_hand.course(COIN, None, arrivals[0][1])[1][:2]),))

    def test_steps_behind_the_end(self):
        found = self.run_of(SERVER, ((0, ASK),), 9)
        for at in range(2, 10):
            self.same(found[at], (at, (2, (None, None), ()), (), ((0, ((2,), "most")),)))

    def test_arrivals_of_the_same_step_and_of_later_ones(self):
        arrivals = ((0, ASK), (0, ASK), (2, ASK), (5, ASK))
        found = self.run_of(serving(), arrivals, 8)
        self.same([[row[0] for row in standing[2]] for standing in found], [[], [0, 1], [], [2], [], [], [3], [], []])
        self.same([len(standing[3]) for standing in found], [0, 0, 2, 2, 3, 3, 3, 4, 4])
        self.same(ended(serving(), arrivals)[0], 7)

    def test_a_refused_request_of_a_later_step(self):
        found = self.run_of(serving(1, 1), ((2, asking((1,), 2)),), 4)
        self.same([standing[3] for standing in found], [(), (), (), ((0, ("refused",)),), ((0, ("refused",)),)])
        self.same(ended(serving(1, 1), ((2, asking((1,), 2)),))[0], 3)

    def test_waiting_for_the_turn(self):
        # The second one needs two pages while one is free; the third one, which needs one, waits behind it.
        arrivals = ((0, ASK), (0, asking((1, 1), 2, (1, 1))), (0, ASK), (0, asking((1, 1), 40)))
        found = self.run_of(serving(2), arrivals, 6)
        self.same([[row[0] for row in standing[2]] for standing in found[:4]], [[], [0], [], [1]])
        # A request that must be refused is not looked at, either, while one before it waits.
        self.same([[number for number, _ in standing[3]] for standing in found[:4]], [[], [], [0], [0]])
        self.same([number for number, _ in ended(serving(2), arrivals)[1]], [0, 1, 2, 3])
        self.same(found[2][2:], ((), ((0, ((2,), "most")),)))

    def test_a_refused_one_bars_nobody(self):
        arrivals = ((0, asking((1, 1), 40)), (0, ASK))
        self.same(self.run_of(serving(2), arrivals, 1)[1][2:], (((1, (), 0, 0),), ((0, ("refused",)),)))

    def test_needs_together_at_most_the_number_of_pages(self):
        two = asking((1, 1), 2, (1, 1))
        for many, right in ((2, [0]), (3, [0]), (4, [0, 1]), (5, [0, 1]), (6, [0, 1, 2]), (7, [0, 1, 2])):
            found = self.run_of(serving(many), ((0, two), (0, two), (0, two)), 1)
            self.same([row[0] for row in found[1][2]], right)

    def test_it_joins_with_the_tokens_of_its_prompt(self):
        long = asking((1, 2, 1, 1, 2), 2, (1, 1, 1))
        arrivals = ((0, long), (5, asking((1, 2, 1, 1), 1, (1,))), (5, asking((1, 2, 1, 1, 1), 1, (1,))))
        found = self.run_of(serving(12, 2, 1), arrivals, 6)
        self.same(found[5][1][2], ((0, (0, 1, 2)),))
        self.same(found[6][1][2], ((0, (0, 1, 2)), (1, (0, 3)), (2, (0, 1, 4))))
        self.same(found[6][1][1][:6], (pairs(1, 2), pairs(1, 1), pairs(2), pairs(1), pairs(1), None))

    def test_words(self):
        one = asking((1, 1, 1), 1, (1,))
        table = (("go", "wait", "lose"), ("go", "lose"), ("wait", "go", "wait", "go"))
        found = self.run_of(serving(12, 1, 1, table), ((0, one), (0, one), (0, one), (0, one)), 3)
        lengths = [[len(numbers) for _, numbers in standing[1][2]] for standing in found]
        self.same(lengths, [[], [1, 0, 0, 1], [2, 0, 1, 0], [3, 1, 1, 1]])

    def test_the_first_active_request_always_goes_on(self):
        for word in ("wait", "lose", "go"):
            self.same(ended(serving(table=((word,),)), ((0, ASK),)), (2, ((0, ((2,), "most")),)))
        found = self.run_of(serving(table=(("lose",), ("wait", "wait"))), ((0, ASK), (0, ASK)), 4)
        self.same([[row[0] for row in standing[2]] for standing in found], [[], [0, 1], [1], [1], []])

    def test_rows_and_positions_modulo_their_numbers(self):
        one = asking((1,) * 9, 1, (1,))
        arrivals = ((0, one),) * 4
        found = self.run_of(serving(40, 1, 1, (("wait", "go"), ("go", "wait", "wait"))), arrivals, 4)
        lengths = [[len(numbers) for _, numbers in standing[1][2]] for standing in found]
        self.same(lengths, [[], [1, 1, 0, 1], [2, 1, 0, 2], [3, 2, 0, 3], [4, 2, 0, 4]])

    def test_positions_do_not_change_when_earlier_ones_end(self):
        long = asking((1,) * 4, 1, (1,))
        found = self.run_of(serving(20, 1, 1, (("go", "go", "wait"),)), ((0, ASK), (0, long), (0, long)), 3)
        lengths = [{number: len(numbers) for number, numbers in standing[1][2]} for standing in found]
        self.same(lengths, [{}, {0: 1, 1: 1, 2: 0}, {1: 2, 2: 0}, {1: 3, 2: 1}])

    def test_losing(self):
        one = asking((1, 2), 2, (2, 3), least=2)
        server = serving(20, 1, 2, (("go", "go"), ("go", "go"), ("go", "lose"), ("go", "go"), ("go", "wait")))
        found = self.run_of(server, ((0, asking((2,) * 14, 1)), (0, one)), 7)
        self.same([standing[2][1] if len(standing[2]) > 1 else None for standing in found], [
            None, (1, (), 0, 0), *[(1, (2,), 1, 1)] * 5, None])
        self.same([len(dict(standing[1][2]).get(1, ())) for standing in found], [0, 2, 2, 0, 2, 2, 3, 0])
        self.same(found[7][3], ((1, ((2, 1), "most")),))

    def test_pages_that_are_lost_are_taken_by_those_behind(self):
        one, other = asking((2, 2), 1, (1,)), asking((1, 1), 1, (1,))
        server = serving(8, 1, 1, (("go", "go", "wait"), ("go", "lose", "go")))
        found = self.run_of(server, ((0, asking((1,) * 4, 1)), (0, one), (0, other)), 2)
        self.same(found[1][1][2], ((0, (0,)), (1, (1,)), (2, ())))
        self.same(found[2][1][2], ((0, (0, 2)), (1, ()), (2, (1,))))

    def test_pages_of_ended_requests_are_taken_again(self):
        arrivals = ((0, ASK), (0, asking((2, 1, 1, 1, 1), 1, (1,))), (2, asking((2,), 1, (1,))))
        found = self.run_of(serving(8, 1, 1), arrivals, 3)
        # The first one ends before the second one works in the same step.
        self.same([standing[1][2] for standing in found], [
            (), ((0, (0,)), (1, (1,))), ((1, (1, 0)),), ((1, (1, 0, 2)), (2, (3,)))])

    def test_other_orders_of_the_active_ones(self):
        arrivals = ((0, asking((1, 1), 1, (1,))), (0, asking((2, 2), 1, (3,))))
        standing = stepped_once(serving(table=(("wait",),)), arrivals, begun(serving(), arrivals))
        self.same(standing[2], ((0, (), 0, 0), (1, (), 0, 0)))
        turned = (standing[0], standing[1], standing[2][::-1], standing[3])
        found = stepped_once(serving(table=(("wait",),)), arrivals, turned)
        self.same(found, (2, (2, (pairs(1), pairs(2)) + (None,) * 6, ((0, (0,)), (1, (1,)))), turned[2], ()))

    def test_a_standing_of_which_no_run_knows(self):
        # Number 1 is active before its step is reached and before number 0, which is admitted behind it.
        arrivals = ((1, ASK), (9, asking((2, 2), 2, (1, 3, 1))))
        standing = (1, (2, (None,) * 8, ((1, ()),)), ((1, (1,), 1, 1),), ())
        found = stepped_once(serving(), arrivals, standing)
        self.same(found, (2, (2, (pairs(2), pairs(1)) + (None,) * 6, ((0, (1,)), (1, (0,)))),
                          ((1, (1,), 1, 1), (0, (), 0, 0)), ()))

    def test_as_by_hand(self):
        source = random.Random(51)
        for _ in range(150):
            server = drawn.some_server(source)
            arrivals = drawn.some_arrivals(source, server)
            self.assertIs(is_server(server), True)
            self.assertIs(are_arrivals(server, arrivals), True)
            standing = begun(server, arrivals)
            while len(standing[3]) < len(arrivals):
                self.assertLess(standing[0], 150)
                after = stepped_once(server, arrivals, standing)
                self.same(after, by_hand.step(server, arrivals, standing))
                standing = after
            self.same(ended(server, arrivals), (standing[0], standing[3]))

    def test_as_by_hand_from_any_standing(self):
        source = random.Random(52)
        for _ in range(400):
            server = drawn.some_server(source)
            arrivals = drawn.some_arrivals(source, server)
            standing = drawn.some_standing(source, server, arrivals)
            for _ in range(3):
                self.assertIs(is_standing(server, arrivals, standing), True)
                after = stepped_once(server, arrivals, standing)
                self.same(after, by_hand.step(server, arrivals, standing))
                standing = after
            self.assertIs(is_standing(server, arrivals, standing), True)


class AloneAndTogether(Case):

    def test_outcomes_hang_on_the_rounds_alone(self):
        source = random.Random(55)
        for _ in range(60):
            model, vocabulary, *_ = drawn.some_server(source)
            requests = [drawn.some_request(source, model, vocabulary) for _ in range(4)]
            right = [alone(model, vocabulary, request)[:2] for request in requests]
            for _ in range(6):
                server = (model, vocabulary, source.randint(1, 9), source.randint(1, 4), source.randint(1, 4),
                          drawn.some_table(source))
                order = source.sample(range(4), source.randint(0, 4))
                arrivals = tuple(zip(sorted(source.randint(0, 9) for _ in order), [requests[at] for at in order]))
                steps, outcomes = ended(server, arrivals)
                refused = [need(server, requests[at]) > server[2] for at in order]
                self.same(outcomes, tuple((number, ("refused",) if refused[number] else right[at])
                                          for number, at in enumerate(order)))

    def test_every_table_of_few_words(self):
        requests = (asking((1, 2, 1), 2, (2, 3), least=1), asking((1, 2), 3, (1, 1, 0, 0, 3), drafting=ROW),
                    asking((2, 1), 3, (5, 0, 3, 1, 2), grammar=ENDS))
        arrivals = ((0, requests[0]), (0, requests[1]), (1, requests[2]))
        right = tuple((number, alone(COIN, LETTERS, request)[:2]) for number, request in enumerate(requests))
        for words in itertools.product(("go", "wait", "lose"), repeat=4):
            table = (words[:2], words[2:])
            for many in (3, 5, 9):
                self.same(ended(serving(many, 2, 2, table, LETTERS), arrivals)[1], right)

    def test_equal_requests_with_other_tapes(self):
        arrivals = tuple((0, asking((1, 2), 3, tape)) for tape in ((1, 1, 1), (3, 3, 3), (0,), (3, 1, 0)))
        self.same(ended(serving(16), arrivals)[1], (
            (0, ((1, 1, 1), "most")), (1, ((2, 2, 2), "most")), (2, ((), "end")), (3, ((2, 1), "end"))))

    def test_networks_at_the_limits(self):
        source = random.Random(56)
        for _ in range(4):
            model = drawn.some_network(source, 3)
            server = (model, LETTERS, 12, 4, 4, drawn.some_table(source))
            tape = tuple(source.randrange(10 ** 6) for _ in range(40))
            drafting = (drawn.some_network(source, 3), (), (("row", 4), ("several", 4), ("row", 1), ("row", 2)))
            grammar = ("grammar", 2, 0, (0, 1), ((0, "a", 0), (0, "b", 1), (1, "b", 0)))
            requests = (asking((1,) * 9, 5, tape, drafting=drafting, grammar=grammar), asking((1,) * 12, 2, tape),
                        asking((1, 2), 12, tape, drafting=drafting), asking((2,) * 9, 5, tape, grammar=grammar))
            arrivals = tuple((30, request) for request in requests)
            self.same(ended(server, arrivals)[1], tuple((number, alone(model, LETTERS, request)[:2])
                                                        for number, request in enumerate(requests)))


class Errors(Case):

    def test_the_server_comes_first(self):
        for server in (*ODD, list(SERVER), SERVER[:5], replaced(SERVER, 2, True)):
            self.fails(BadServer, server, are_arrivals, server, None)
            self.fails(BadServer, server, begun, server, None)
            self.fails(BadServer, server, stepped_once, server, None, None)
            self.fails(BadServer, server, is_standing, server, None, None)
            self.fails(BadServer, server, ended, server, None)

    def test_then_the_arrivals(self):
        for arrivals in (None, [], [(0, ASK)], ((-1, ASK),), ((True, ASK),), ((1, ASK), (0, ASK)), ((0, FULL),), (ASK,), 0, "", {}):
            self.fails(BadArrivals, arrivals, begun, SERVER, arrivals)
            self.fails(BadArrivals, arrivals, stepped_once, SERVER, arrivals, None)
            self.fails(BadArrivals, arrivals, is_standing, SERVER, arrivals, None)
            self.fails(BadArrivals, arrivals, ended, SERVER, arrivals)

    def test_then_the_standing(self):
        for standing in (*ODD, list(begun(SERVER, ()))):
            self.fails(BadStanding, standing, stepped_once, SERVER, ((0, ASK),), standing)

    def test_by_name(self):
        arrivals = ((0, ASK),)
        standing = begun(SERVER, arrivals)
        self.same(is_server(thing=SERVER), True)
        self.same(are_arrivals(thing=arrivals, server=SERVER), True)
        self.same(stepped_once(standing=standing, arrivals=arrivals, server=SERVER), stepped_once(SERVER, arrivals, standing))
        self.same(is_standing(thing=standing, arrivals=arrivals, server=SERVER), True)
        self.same(ended(arrivals=arrivals, server=SERVER), (2, ((0, ((2,), "most")),)))
        self.fails(BadArrivals, None, stepped_once, standing=None, arrivals=None, server=SERVER)

    def test_no_error_of_another_kind_for_a_wrong_model(self):
        wrong = replaced(SERVER, 0, None)
        with self.assertRaises(BadServer) as caught:
            begun(wrong, ())
        self.assertNotIsInstance(caught.exception, BadModel)

    def test_beyond_the_limits(self):
        arrivals = tuple((step, asking((1, 2) * 6, 20, (1,) * 12 + (0,))) for step in range(0, 48, 6))
        server = serving(40, 9, 9, (("go", "wait", "lose", "go", "go", "wait"),) * 7)
        steps, outcomes = ended(server, arrivals)
        self.same(outcomes, tuple((number, ((1,) * 12, "end")) for number in range(8)))
        standing = begun(server, arrivals)
        for _ in range(steps):
            standing = stepped_once(server, arrivals, standing)
        self.same(standing, (steps, (9, (None,) * 40, ()), (), outcomes))


if __name__ == "__main__":
    unittest.main()
