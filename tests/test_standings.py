"""Standings: their form, and what holds of them [5.2] and the interface's is_standing."""

import random
import unittest

import by_hand
import drawn
from draftward.errors import BadStanding
from draftward.servers import begun, is_standing, stepped_once
from samples import ODD, Case, spoiled

COIN = ("window", 3, 0, (), (1, 2, 1))
ONE = ((1,),)
NET = ("net", 2, 1, ((1,), (2,)), ((0,),), ((ONE, ONE, ONE, ONE),), ((0,), (1,)))
LONG = ("request", (1, 2), 3, (("least", 3),), None, None, (1, 2, 1))
SHORT = ("request", (1, 2), 1, (), None, None, (3,))
HUGE = ("request", (1,), 40, (), None, None, ())
ARRIVALS = ((0, LONG), (0, SHORT), (2, HUGE), (4, LONG))
SERVER = (COIN, None, 6, 2, 2, (("go",),))


def pairs(*tokens):
    return tuple((token, (token,)) for token in tokens)


# LONG settles 1, 2, 1 in three rounds. Here it did two of them, and keeps three of its four tokens.
POOL = (2, (pairs(1, 2), pairs(1), None, None, None, None), ((0, (0, 1)),))
ACTIVE = ((0, (1, 2), 2, 2),)
ENDED = ((1, ((2,), "most")), (2, ("refused",)))
STANDING = (7, POOL, ACTIVE, ENDED)

SHARED = (2, (pairs(1, 2), pairs(1), None, None, None, None), ((0, (0, 1)), (3, (0, 1))))
BOTH = (7, SHARED, (*ACTIVE, (3, (1,), 1, 1)), ENDED)


def replaced(standing, at, part):
    return (*standing[:at], part, *standing[at + 1:])


class Standings(Case):

    def check(self, thing, right, server=SERVER, arrivals=ARRIVALS):
        self.assertIs(is_standing(server, arrivals, thing), right, thing)
        self.assertIs(by_hand.is_right_standing(server, arrivals, thing), right, thing)
        if not right:
            self.fails(BadStanding, thing, stepped_once, server, arrivals, thing)

    def test_right_ones(self):
        for standing in (begun(SERVER, ARRIVALS), STANDING, BOTH, (0, *STANDING[1:]), (200, *BOTH[1:])):
            self.check(standing, True)

    def test_steps(self):
        for step in (0, 1, 8, 200, 10 ** 39):
            self.check(replaced(STANDING, 0, step), True)
        for step in (-1, True, False, None, "7", (7,), [7], -(10 ** 39)):
            self.check(replaced(STANDING, 0, step), False)

    def test_forms(self):
        for thing in (None, [], (), list(STANDING), STANDING[:3], (*STANDING, ()), STANDING[::-1], "standing", 0, {}):
            self.check(thing, False)

    def test_another_order(self):
        self.check(replaced(BOTH, 2, BOTH[2][::-1]), True)
        self.check(replaced(BOTH, 3, ENDED[::-1]), False)
        self.check(replaced(BOTH, 1, replaced(SHARED, 2, SHARED[2][::-1])), False)

    def test_lost_lists_and_shorter_ones(self):
        for page in (pairs(1, 2), pairs(1)):
            self.check(replaced(STANDING, 1, (2, (page, None, None, None, None, None), ((0, (0,)),))), True)
        self.check(replaced(STANDING, 1, (2, (None,) * 6, ((0, ()),))), True)
        self.check(replaced(STANDING, 1, (2, (pairs(1, 2), pairs(1, 2), None, None, None, None), ((0, (0, 1)),))), True)
        self.check(replaced(BOTH, 1, (2, (None,) * 6, ((0, ()), (3, ())))), True)
        self.check(replaced(BOTH, 1, (2, (None, None, pairs(1, 2), pairs(1), None, None), ((0, ()), (3, (2, 3))))), True)

    def test_lists_keep_a_beginning_of_the_tokens(self):
        for page in (pairs(1, 1), pairs(2), pairs(2, 1), pairs(0), pairs(1, 0)):
            self.check(replaced(STANDING, 1, (2, (page, None, None, None, None, None), ((0, (0,)),))), False)
        # The tokens are 1, 2, 1, 2: not one more.
        long = (2, (pairs(1, 2), pairs(1, 2), pairs(1), None, None, None), ((0, (0, 1, 2)),))
        self.check(replaced(STANDING, 1, long), False)
        self.check(replaced(STANDING, 1, (2, (pairs(1, 2), pairs(2), None, None, None, None), ((0, (0, 1)),))), False)

    def test_active_requests(self):
        for row in ((0, (1, 2), 2, 3), (0, (1, 2), 2, 1), (0, (1, 2), 3, 2), (0, (1, 2), 1, 2), (0, (1,), 2, 2), (0, (2, 1), 2, 2),
                    (0, (1, 2, 1), 3, 3), (0, (1, 2), True, 2), (0, (1, 2), 2, True), (0, (True, 2), 2, 2), (0, [1, 2], 2, 2),
                    (False, (1, 2), 2, 2), (True, (1, 2), 2, 2), (-4, (1, 2), 2, 2), (4, (1, 2), 2, 2), (None, (1, 2), 2, 2),
                    (0, (1, 2), 2, -1), (0, (1, 2), 2, -2), (0, (1, 2), 2), (0, (1, 2), 2, 2, None), [0, (1, 2), 2, 2],
                    (0, None, 2, 2), (0, (1, 2), None, 2), (0, (1, 2), 2, None), (0, (1, 2), 2, 10 ** 39), (0, 2, 2), (), None, 0):
            self.check(replaced(STANDING, 2, (row,)), False)
        for rounds, answer in enumerate(((), (1,), (1, 2))):
            standing = (7, (2, (None,) * 6, ((0, ()),)), ((0, answer, rounds, rounds),), ENDED)
            self.check(standing, True)
        for active in ([*ACTIVE], None, ACTIVE + ACTIVE, (), {}, ACTIVE[0]):
            self.check(replaced(STANDING, 2, active), False)

    def test_counts_of_another_kind(self):
        started = (7, (2, (None,) * 6, ((0, ()),)), ((0, (1,), 1, 1),), ())
        self.check(started, True)
        for row in ((0, (1,), True, 1), (0, (1,), 1, True), (0, (True,), 1, 1), (False, (1,), 1, 1)):
            self.check(replaced(started, 2, (row,)), False)
        for row in ((0, (), False, 0), (0, (), 0, False)):
            self.check(replaced(started, 2, (row,)), False)
        self.check(replaced(started, 2, ((0, (), 0, 0),)), True)

    def test_no_request_twice(self):
        self.check(replaced(STANDING, 2, (ACTIVE[0], (0, (1,), 1, 1))), False)
        self.check(replaced(STANDING, 3, ((0, ((1, 2, 1), "most")), *ENDED)), False)
        self.check(replaced(STANDING, 3, (ENDED[0], ENDED[0], ENDED[1])), False)

    def test_outcomes(self):
        for outcomes in ((), ENDED[:1], ENDED[1:], ENDED, (*ENDED, (3, ((1, 2, 1), "most")))):
            self.check(replaced(STANDING, 3, outcomes), True)
        for outcomes in (((1, ((1,), "most")),), ((1, ((2,), "end")),), ((1, ((2,),)),), ((1, ((2,), "most", None)),),
                         ((1, ("refused",)),), ((2, ((), "end")),), ((2, "refused"),), ((2, ["refused"]),), ((2, ("Refused",)),),
                         ((2, ("refused", None)),), ((4, ("refused",)),), ((-1, ("refused",)),), ((True, ((2,), "most")),),
                         ((1, [(2,), "most"]),), ((1, ([2], "most")),), ((1,),), ((1, ((2,), "most"), 1),),
                         ([1, ((2,), "most")],), (None,), (1,), None, [ENDED[0]], ENDED[0], {}, ((3, ((1, 2), None)),),
                         ((3, ((1, 2), "most")),), ((None, ((2,), "most")),), ((1, None),)):
            self.check(replaced(STANDING, 3, outcomes), False)

    def test_tokens_of_outcomes_of_another_kind(self):
        sure = ("window", 2, 0, (), (0, 1))
        server = (sure, None, 6, 2, 2, (("go",),))
        arrivals = ((0, ("request", (1,), 1, (), None, None, ())),)
        pool = (2, (None,) * 6, ())
        self.check((3, pool, (), ((0, ((1,), "most")),)), True, server, arrivals)
        self.check((3, pool, (), ((0, ((True,), "most")),)), False, server, arrivals)
        self.check((3, pool, (), ((False, ((1,), "most")),)), False, server, arrivals)

    def test_a_refused_one_is_never_active(self):
        pool = (2, POOL[1], (*POOL[2], (2, ())))
        self.check((7, pool, (*ACTIVE, (2, (), 0, 0)), ()), False)
        self.check((7, (2, (None,) * 6, ((2, ()),)), ((2, (), 0, 0),), ()), False)

    def test_needs_together_are_at_most_the_number_of_pages(self):
        # The two need two pages each.
        for many in range(1, 7):
            server = replaced(SERVER, 2, many)
            standing = (7, (2, (None,) * many, ((0, ()), (3, ()))), BOTH[2], ENDED[1:])
            self.check(standing, many >= 4, server)

    def test_the_pool_is_that_of_the_server(self):
        self.check(replaced(STANDING, 1, replaced(POOL, 1, POOL[1][:5])), False)
        self.check(replaced(STANDING, 1, replaced(POOL, 1, (*POOL[1], None))), False)
        self.check(replaced(STANDING, 1, (3, (pairs(1, 2), None, None, None, None, None), ((0, (0,)),))), False)
        self.check(replaced(STANDING, 1, (1, (pairs(1), None, None, None, None, None), ((0, (0,)),))), False)
        for pool in (None, (), [], list(POOL), POOL[:2], (True, *POOL[1:]), replaced(POOL, 2, ()), (2, (None,) * 6, (0,))):
            self.check(replaced(STANDING, 1, pool), False)

    def test_the_lists_are_those_of_the_active_ones(self):
        for lists in (((1, (0, 1)),), ((0, (0, 1)), (1, ())), ((0, (0, 1)), (3, ())), ((0, (0, 1)), (9, (0,)))):
            self.check(replaced(STANDING, 1, replaced(POOL, 2, lists)), False)
        self.check(replaced(BOTH, 1, POOL), False)
        self.check(replaced(STANDING, 1, (2, (None,) * 6, ())), False)
        self.check(replaced(STANDING, 1, SHARED), False)
        self.check(replaced(replaced(STANDING, 1, (2, (None,) * 6, ())), 2, ()), True)

    def test_a_pool_that_is_not_true(self):
        for row in ((1,), (0,)):
            page = ((1, (1,)), (2, row))
            self.check(replaced(STANDING, 1, (2, (page, None, None, None, None, None), ((0, (0,)),))), False)
        server = (NET, None, 2, 2, 2, (("go",),))
        arrivals = ((0, ("request", (1, 1), 2, (), None, None, ())),)
        standing = stepped_once(server, arrivals, begun(server, arrivals))
        row = ((2,), (2,))
        self.same(standing[1][1][0], ((1, (row,)), (1, (row,))))
        self.check(standing, True, server, arrivals)
        for other in (((2,), (1,)), ((1,), (2,)), ((2,), (-2,))):
            pool = (2, (((1, (row,)), (1, (other,))), None), ((0, (0,)),))
            self.check(replaced(standing, 1, pool), False, server, arrivals)

    def test_no_arrivals(self):
        empty = (2, (None,) * 6, ())
        self.check((0, empty, (), ()), True, arrivals=())
        self.check((9, empty, (), ()), True, arrivals=())
        self.check((9, empty, ((0, (), 0, 0),), ()), False, arrivals=())
        self.check((9, empty, (), ((0, ("refused",)),)), False, arrivals=())

    def test_any_values(self):
        for standing in (BOTH, begun(SERVER, ARRIVALS)):
            for thing in (*ODD, *spoiled(standing)):
                self.assertIs(is_standing(SERVER, ARRIVALS, thing), by_hand.is_right_standing(SERVER, ARRIVALS, thing), thing)

    def test_any_values_of_drawn_standings(self):
        source = random.Random(53)
        seen = {True: 0, False: 0}
        while sum(seen.values()) < 4000:
            server = drawn.some_server(source)
            arrivals = drawn.some_arrivals(source, server)
            standing = drawn.some_standing(source, server, arrivals)
            things = list(spoiled(standing))
            for thing in source.sample(things, min(40, len(things))):
                right = by_hand.is_right_standing(server, arrivals, thing)
                seen[right] += 1
                self.assertIs(is_standing(server, arrivals, thing), right, thing)
        self.assertGreater(min(seen.values()), 20)

    def test_standings_of_other_servers_and_arrivals(self):
        source = random.Random(54)
        seen = set()
        for _ in range(150):
            server = drawn.some_server(source)
            arrivals, others = drawn.some_arrivals(source, server), drawn.some_arrivals(source, server)
            other = (*server[:2], source.randint(2, 8), source.randint(1, 3), *server[4:])
            standing = drawn.some_standing(source, server, arrivals)
            for given in ((server, others), (other, arrivals), (other, others)):
                right = by_hand.is_right_standing(*given, standing)
                seen.add(right)
                self.assertIs(is_standing(*given, standing), right)
        self.assertEqual(seen, {True, False})


if __name__ == "__main__":
    unittest.main()
