"""Pools, their changes, and what stays [4.1], [4.2], [4.3]."""

import random
import unittest

import by_hand
import drawn
from draftward.errors import BadModel, BadNumber, BadPool, BadRequest, BadRows, BadToken, BadTokens
from draftward.models import rows_of, stepped
from draftward.pages import added, cleared, copied, free_pages, is_pool, is_true, joined, kept, lost, new_pool
from samples import ODD, Case, is_int, spoiled

LAST = ("window", 3, 1, (((1,), (0, 1, 3)),), (1, 2, 1))
ONE = ((1,),)
NET = ("net", 2, 1, ((1,), (2,)), ((0,),), ((ONE, ONE, ONE, ONE),), ((0,), (1,)))
FLAT = ("net", 2, 1, ((1,), (2,)), ((0,),), (), ((0,), (1,)))

WRONG_NUMBERS = (-1, True, False, None, "0", (0,), [0], {}, 10 ** 39, -(10 ** 39))


def pairs(*tokens):
    """Return the pairs of tokens and rows of a window model."""
    return tuple((token, (token,)) for token in tokens)


# Two full pages that two lists share, a page that they do not share, and one of a third list.
SHARED = (2, (pairs(1, 2), pairs(1, 0), pairs(2), pairs(1), None, None),
          ((3, (0, 1, 2)), (5, (0, 1)), (9, (3,))))
EMPTY = (2, (None, None, None), ())
NETS = (2, (((0, (((1,), (1,)),)), (1, (((2,), (2,)),))), None), ((0, (0,)),))

# Each function that takes the number of a request with a list, and right arguments behind it.
LISTED = ((kept, {}), (added, {"token": 1, "row": (1,)}), (copied, {"new": 1}), (cleared, {}), (lost, {}))


def filled(model, pool, number, tokens):
    """Return the pool in which the request keeps the tokens, too, with their rows, or None."""
    for token in tokens:
        before = tuple(row for _, row in kept(model, pool, number))
        pool = added(model, pool, number, token, stepped(model, before, token)[0])
        if pool is None:
            return None
    return pool


class Forms(Case):

    def test_right_ones(self):
        for pool in (EMPTY, SHARED, (1, (), ()), (10 ** 39, (None,), ()), (1, (pairs(0),), ((10 ** 39, (0,)),)),
                     (3, (), ((0, ()), (1, ()))), (2, (pairs(1), pairs(1, 2)), ((0, (1, 0)),)),
                     (1, (pairs(1), pairs(2)), ((0, (0, 1)), (1, (1, 0)))), (2, (pairs(1, 1),), ((0, (0,)), (1, (0,))))):
            self.assertIs(is_pool(LAST, pool), True, pool)
        self.assertIs(is_pool(NET, NETS), True)
        self.assertIs(is_pool(FLAT, (1, (((1, ()),),), ((0, (0,)),))), True)

    def test_forms(self):
        for pool in (None, [], (), "pool", list(EMPTY), EMPTY[:2], (*EMPTY, ()), (2, [None], ()), (2, (None,), []),
                     (2, None, ()), (2, (), None), (2, (False,), ()), (2, ([],), ()), (2, ((),), ((0, (0,)),))):
            self.assertIs(is_pool(LAST, pool), False, pool)

    def test_places(self):
        for places in (0, -1, True, None, "2", (2,), [2]):
            self.assertIs(is_pool(LAST, (places, (None,), ())), False, places)
        for places in (1, 2, 3, 10 ** 39):
            pool = (places, (pairs(1, 2),), ((0, (0,)),))
            self.assertIs(is_pool(LAST, pool), places >= 2, places)

    def test_pages(self):
        for page in ((), [(1, (1,))], ((1, (1,)), None), ((1,),), ((1, (1,), 1),), ([1, (1,)],), ((3, (1,)),), ((-1, (1,)),),
                     ((True, (1,)),), ((1, (3,)),), ((1, (-1,)),), ((1, (True,)),), ((1, [1]),), ((1, ()),), ((1, (1, 1)),),
                     ((1, None),), ((1, 1),), ((None, (1,)),), pairs(1, 1, 1), 0, "page", False):
            self.assertIs(is_pool(LAST, (2, (page,), ((0, (0,)),))), False, page)
        self.assertIs(is_pool(NET, (2, (pairs(1),), ((0, (0,)),))), False)
        self.assertIs(is_pool(LAST, (2, NETS[1], ((0, (0,)),))), False)
        for row in (((2,), (2,)), (((2,), (2,)),) * 2, (((2,),),), (((2,), (True,)),), (((2, 2), (2,)),), [((2,), (2,))]):
            self.assertIs(is_pool(NET, (2, (((1, row),),), ((0, (0,)),))), False, row)

    def test_lists(self):
        pages = (pairs(1, 2), pairs(1), None)
        for lists in (((0, (0, 1)),), ((0, (0,)), (1, (1,))), ((0, (1,)), (7, (0, 1)), (8, ()))):
            self.assertIs(is_pool(LAST, (2, pages, lists)), True, lists)
        for lists in ((), ((0, (0,)),), ((0, (1,)),), ((0, (0, 1, 2)),), ((0, (1, 0)),), ((0, (0, 0, 1)),), ((0, (0, 1, 1)),),
                      ((0, (0, 1, 3)),), ((0, (0, 1, -1)),), ((0, (False, 1)),), ((0, (0, True)),), ((0, [0, 1]),),
                      ((0, (0, "1")),), ((0, (0, None)),), ((0, None),), ((0, 1),), ((0,),), ((0, (0, 1), ()),),
                      ([0, (0, 1)],), ((-1, (0, 1)),), ((True, (0, 1)),), ((None, (0, 1)),), (("0", (0, 1)),),
                      ((1, (0, 1)), (0, ())), ((0, (0, 1)), (0, ())), ((0, (0, 1)), (0, (0, 1))), ((0, (0, 1)), None),
                      ((0, (0, 1)), ()), ((0, (0, 10 ** 39)),)):
            self.assertIs(is_pool(LAST, (2, pages, lists)), False, lists)

    def test_tokens_of_another_size(self):
        pool = (2, (pairs(2),), ((0, (0,)),))
        self.assertIs(is_pool(("window", 2, 0, (), (1, 1)), pool), False)
        self.assertIs(is_pool(LAST, pool), True)

    def test_any_values(self):
        for model, pool in ((LAST, SHARED), (NET, NETS), (LAST, EMPTY)):
            for thing in (*ODD, *spoiled(pool)):
                self.assertIs(is_pool(model, thing), by_hand.is_right_pool(model, thing), thing)

    def test_true_ones(self):
        for pool in (EMPTY, SHARED, (1, (), ((4, ()),))):
            self.assertIs(is_true(LAST, pool), True)
        self.assertIs(is_true(NET, filled(NET, joined(NET, new_pool(NET, 4, 2), 0, (1,)), 0, (1, 0, 1, 1))), True)

    def test_a_pool_that_is_not_true(self):
        for page in (((1, (2,)),), ((1, (1,)), (2, (1,)))):
            pool = (2, (page, None), ((0, (0,)),))
            self.assertIs(is_pool(LAST, pool), True)
            self.assertIs(is_true(LAST, pool), False)
            self.assertIs(is_true(LAST, (2, (pairs(1, 1), page), ((0, (0,)), (1, (0, 1))))), False)
        right = (((1,), (1,)),)
        for row in ((((1,), (0,)),), (((2,), (1,)),), (((1,), (-1,)),)):
            self.assertIs(is_true(NET, (2, (((0, row),),), ((0, (0,)),))), False, row)
        self.assertIs(is_true(NET, (2, (((0, right),),), ((0, (0,)),))), True)

    def test_a_page_can_be_true_in_one_list_and_not_in_another(self):
        model = ("net", 2, 1, ((1,), (2,)), ((0,), (5,)), ((ONE, ONE, ONE, ONE),), ((0,), (1,)))
        rows = rows_of(model, (0, 0))
        page, other = ((0, rows[0]),), ((0, rows[1]),)
        self.assertIs(is_true(model, (1, (page, other), ((0, (0, 1)),))), True)
        self.assertIs(is_true(model, (1, (page, other), ((0, (0, 1)), (1, (1,))))), False)

    def test_new_pools(self):
        self.same(new_pool(LAST, 3, 2), EMPTY)
        self.same(new_pool(places=4, many=1, model=NET), (4, (None,), ()))
        for model in (LAST, NET, FLAT):
            self.assertIs(is_pool(model, new_pool(model, 12, 4)), True)

    def test_new_pool_errors(self):
        for model in ODD:
            self.fails(BadModel, model, new_pool, model, None, None)
        for number in (0, -1, True, False, None, "1", (1,), [1], -(10 ** 39)):
            self.fails(BadNumber, number, new_pool, LAST, number, 2)
            self.fails(BadNumber, number, new_pool, LAST, number, {})
            self.fails(BadNumber, number, new_pool, LAST, 2, number)

    def test_kept_and_free(self):
        self.same(kept(LAST, SHARED, 3), pairs(1, 2, 1, 0, 2))
        self.same(kept(LAST, SHARED, 5), pairs(1, 2, 1, 0))
        self.same(kept(LAST, SHARED, 9), pairs(1))
        self.same(kept(LAST, (1, (None,), ((4, ()),)), 4), ())
        self.same(kept(LAST, (1, (pairs(1), pairs(2)), ((4, (1, 0)),)), 4), pairs(2, 1))
        self.same([free_pages(LAST, pool) for pool in (EMPTY, SHARED, (1, (), ()), (1, (pairs(1),), ((0, (0,)),)))], [3, 2, 0, 0])


class Joining(Case):

    def test_to_an_empty_pool(self):
        self.same(joined(LAST, EMPTY, 4, (1, 2)), (2, (None, None, None), ((4, ()),)))

    def test_full_pages_that_begin_the_tokens(self):
        for tokens, right in (((1, 2, 1, 0, 2), (0, 1)), ((1, 2, 1, 0, 1, 1), (0, 1)), ((1, 2, 1, 0), (0,)), ((1, 2, 1, 1, 1), (0,)),
                              ((1, 2, 1), (0,)), ((1, 2), ()), ((1,), ()), ((1, 1, 1), ()), ((2, 1, 0), ()), ((1, 2, 0, 1, 1), (0,))):
            pool = joined(LAST, SHARED, 4, tokens)
            self.same(pool, (2, SHARED[1], (SHARED[2][0], (4, right), *SHARED[2][1:])))

    def test_a_full_last_page_and_one_that_is_not_full(self):
        pool = (2, (pairs(1, 2), pairs(1)), ((0, (0, 1)),))
        self.same(joined(LAST, pool, 1, (1, 2, 1, 1))[2], ((0, (0, 1)), (1, (0,))))
        pool = (2, (pairs(1, 2), pairs(1, 1)), ((0, (0, 1)),))
        self.same(joined(LAST, pool, 1, (1, 2, 1, 1, 1))[2], ((0, (0, 1)), (1, (0, 1))))
        self.same(joined(LAST, pool, 1, (1, 2, 1, 1))[2], ((0, (0, 1)), (1, (0,))))

    def test_a_list_that_serves_as_well_as_another(self):
        pages = (pairs(1, 2), pairs(1, 2), pairs(1, 2), pairs(1, 1))
        pool = (2, pages, ((1, (1,)), (2, (0,)), (4, (2, 3))))
        self.same(joined(LAST, pool, 3, (1, 2, 2))[2], ((1, (1,)), (2, (0,)), (3, (1,)), (4, (2, 3))))
        self.same(joined(LAST, pool, 0, (1, 2, 1, 1))[2][0], (0, (1,)))
        self.same(joined(LAST, pool, 5, (1, 2, 1, 1, 0))[2][-1], (5, (2, 3)))

    def test_as_many_tokens_as_a_full_page_has(self):
        for places in (1, 2, 3, 4):
            tokens = (1, 2, 1, 0)[:places]
            pool = (places, (pairs(*tokens),), ((0, (0,)),))
            self.same(joined(LAST, pool, 1, tokens)[2], ((0, (0,)), (1, ())))
            self.same(joined(LAST, pool, 1, (*tokens, 1))[2], ((0, (0,)), (1, (0,))))

    def test_only_the_tokens_tell(self):
        pool = (1, (((1, (2,)),),), ((0, (0,)),))
        self.same(joined(LAST, pool, 1, (1, 1))[2], ((0, (0,)), (1, (0,))))

    def test_errors(self):
        for number in (*WRONG_NUMBERS, 3, 5, 9):
            if number != 10 ** 39:
                self.fails(BadRequest, number, joined, LAST, SHARED, number, None)
        for tokens in ((), [], [1], None, 1, "1", (3,), (-1,), (True,), (1, None), {}, ((1,),)):
            self.fails(BadTokens, tokens, joined, LAST, SHARED, 4, tokens)
            self.fails(BadTokens, tokens, joined, tokens=tokens, number=0, pool=EMPTY, model=LAST)
        self.same(joined(LAST, EMPTY, 10 ** 39, (0,))[2], ((10 ** 39, ()),))


class Adding(Case):

    def test_to_a_request_without_pages(self):
        pool = joined(LAST, EMPTY, 4, (1,))
        self.same(added(LAST, pool, 4, 1, (1,)), (2, (pairs(1), None, None), ((4, (0,)),)))

    def test_to_a_page_that_is_not_full(self):
        self.same(added(LAST, SHARED, 9, 2, (2,)), (2, (*SHARED[1][:3], pairs(1, 2), None, None), SHARED[2]))
        self.same(added(LAST, SHARED, 3, 0, (0,)), (2, (*SHARED[1][:2], pairs(2, 0), *SHARED[1][3:]), SHARED[2]))

    def test_to_a_page_that_is_full(self):
        self.same(added(LAST, SHARED, 5, 2, (2,)), (2, (*SHARED[1][:4], pairs(2), None),
                                                    (SHARED[2][0], (5, (0, 1, 4)), SHARED[2][2])))
        pool = (1, (None, pairs(1)), ((0, (1,)),))
        self.same(added(LAST, pool, 0, 2, (2,)), (1, (pairs(2), pairs(1)), ((0, (1, 0)),)))

    def test_to_a_page_that_is_shared(self):
        pool = copied(LAST, SHARED, 9, 1)
        self.same(pool, (2, SHARED[1], ((1, (3,)), *SHARED[2])))
        right = (2, (*SHARED[1][:4], pairs(1, 0), None), ((1, (4,)), *SHARED[2]))
        self.same(added(LAST, pool, 1, 0, (0,)), right)
        right = (2, (*SHARED[1][:4], pairs(1, 0), None), ((1, (3,)), *SHARED[2][:2], (9, (4,))))
        self.same(added(LAST, pool, 9, 0, (0,)), right)
        # The page is no longer shared, and the next pair goes into it.
        again = added(LAST, right, 1, 2, (2,))
        self.same(again, (2, (*SHARED[1][:3], pairs(1, 2), pairs(1, 0), None), right[2]))

    def test_a_shared_page_behind_others(self):
        pool = copied(LAST, SHARED, 3, 4)
        found = added(LAST, pool, 3, 1, (1,))
        self.same(found, (2, (*SHARED[1][:4], pairs(2, 1), None), ((3, (0, 1, 4)), (4, (0, 1, 2)), *SHARED[2][1:])))
        self.same(kept(LAST, found, 4), kept(LAST, SHARED, 3))

    def test_no_free_page(self):
        full = (2, (pairs(1, 2), pairs(1)), ((0, (0,)), (1, (1,)), (2, (1,)), (3, ())))
        for number in range(4):
            self.same(added(LAST, full, number, 1, (1,)), None)
        lone = (2, (pairs(1, 2), pairs(1)), ((0, (0,)), (1, (1,)), (3, ())))
        self.same(added(LAST, lone, 1, 0, (0,)), (2, (pairs(1, 2), pairs(1, 0)), lone[2]))
        self.same(added(LAST, (1, (), ((0, ()),)), 0, 1, (1,)), None)

    def test_the_free_page_with_the_least_number_is_taken(self):
        pool = cleared(LAST, (2, (pairs(1), pairs(2), pairs(0, 0), None), ((0, (1,)), (1, (2,)), (2, (0,)))), 0)
        pool = added(LAST, pool, 1, 1, (1,))
        self.same(pool, (2, (pairs(1), pairs(1), pairs(0, 0), None), ((1, (2, 1)), (2, (0,)))))
        pool = cleared(LAST, pool, 2)
        pool = filled(LAST, pool, 1, (2, 0))
        self.same(pool, (2, (pairs(0), pairs(1, 2), pairs(0, 0), None), ((1, (2, 1, 0)),)))
        self.same(filled(LAST, pool, 1, (0, 1))[1][3], pairs(1))

    def test_a_row_that_is_not_right_is_added_too(self):
        pool = added(LAST, joined(LAST, EMPTY, 0, (1,)), 0, 1, (2,))
        self.assertIs(is_pool(LAST, pool), True)
        self.assertIs(is_true(LAST, pool), False)

    def test_errors(self):
        for token in (3, -1, True, False, None, "1", (1,), [1], 10 ** 39):
            self.fails(BadToken, token, added, LAST, SHARED, 3, token, None)
            self.fails(BadToken, token, added, LAST, SHARED, 3, token, (1,))
        for row in ((), (3,), (-1,), (True,), (1, 1), [1], 1, None, "1", ((1,),), {}):
            self.fails(BadRows, row, added, LAST, SHARED, 3, 1, row)
        for row in ((), (1,), ((1,), (1,)), (((1,), (1,)),) * 2, (((1,), [1]),), [((1,), (1,))], (((1,), (True,)),)):
            self.fails(BadRows, row, added, NET, NETS, 0, 1, row)
        self.same(added(row=(0,), token=0, number=9, pool=SHARED, model=LAST)[1][3], pairs(1, 0))

    def test_any_values(self):
        for thing in (*ODD, *spoiled((1,))):
            if is_int(thing) and 0 <= thing < 3:
                self.same(added(LAST, SHARED, 9, thing, (1,))[1][3], ((1, (1,)), (thing, (1,))))
            else:
                self.fails(BadToken, thing, added, LAST, SHARED, 9, thing, None)
            if type(thing) is tuple and len(thing) == 1 and is_int(thing[0]) and 0 <= thing[0] < 3:
                self.same(added(LAST, SHARED, 9, 1, thing)[1][3], ((1, (1,)), (1, thing)))
            else:
                self.fails(BadRows, thing, added, LAST, SHARED, 9, 1, thing)


class Others(Case):

    def test_copying(self):
        self.same(copied(LAST, SHARED, 3, 0), (2, SHARED[1], ((0, (0, 1, 2)), *SHARED[2])))
        self.same(copied(LAST, SHARED, 9, 10), (2, SHARED[1], (*SHARED[2], (10, (3,)))))
        self.same(copied(new=4, number=5, pool=SHARED, model=LAST)[2][1], (4, (0, 1)))

    def test_copying_errors(self):
        for number in (*WRONG_NUMBERS, 0, 4):
            self.fails(BadRequest, number, copied, LAST, SHARED, number, None)
        for new in (*WRONG_NUMBERS, 3, 5, 9):
            if new != 10 ** 39:
                self.fails(BadRequest, new, copied, LAST, SHARED, 3, new)

    def test_clearing(self):
        self.same(cleared(LAST, SHARED, 9), (2, (*SHARED[1][:3], None, None, None), SHARED[2][:2]))
        self.same(cleared(LAST, SHARED, 3), (2, (*SHARED[1][:2], None, *SHARED[1][3:]), SHARED[2][1:]))
        self.same(cleared(LAST, SHARED, 5), (2, SHARED[1], (SHARED[2][0], SHARED[2][2])))
        self.same(cleared(LAST, cleared(LAST, SHARED, 5), 3), (2, (None, None, None, pairs(1), None, None), SHARED[2][2:]))

    def test_losing(self):
        self.same(lost(LAST, SHARED, 9), (2, (*SHARED[1][:3], None, None, None), (*SHARED[2][:2], (9, ()))))
        self.same(lost(LAST, SHARED, 3), (2, (*SHARED[1][:2], None, *SHARED[1][3:]), ((3, ()), *SHARED[2][1:])))
        self.same(lost(LAST, SHARED, 5), (2, SHARED[1], (SHARED[2][0], (5, ()), SHARED[2][2])))

    def test_a_request_without_pages(self):
        pool = joined(LAST, SHARED, 4, (2,))
        self.same(lost(LAST, pool, 4), pool)
        self.same(cleared(LAST, pool, 4), SHARED)
        self.same(copied(LAST, pool, 4, 0)[2][0], (0, ()))
        self.same(joined(LAST, (1, (None,), ((0, ()),)), 1, (1, 1))[2], ((0, ()), (1, ())))
        self.same(kept(LAST, pool, 4), ())

    def test_errors_of_all(self):
        for function, more in LISTED:
            for model in (*ODD, list(LAST)):
                self.fails(BadModel, model, function, model, None, None, *more)
            for pool in (None, [], list(SHARED), SHARED[:2], (0, *SHARED[1:]), (2, SHARED[1], SHARED[2][:2]), NETS):
                self.fails(BadPool, pool, function, LAST, pool, None, *more)
            for number in (*WRONG_NUMBERS, 0, 4, 8, 10):
                self.fails(BadRequest, number, function, LAST, SHARED, number, *[None for _ in more])
                self.fails(BadRequest, number, function, LAST, SHARED, number, **more)
            self.same(function(**more, number=9, pool=SHARED, model=LAST), function(LAST, SHARED, 9, *more.values()))

    def test_a_bool_is_no_number_of_a_request(self):
        pool = (2, (pairs(1), pairs(2)), ((0, (0,)), (1, (1,))))
        for function, more in LISTED:
            if function is not copied:
                self.assertNotEqual(function(LAST, pool, 0, *more.values()), function(LAST, pool, 1, *more.values()))
            for number in (True, False):
                self.fails(BadRequest, number, function, LAST, pool, number, *more.values())
        for number in (True, False):
            self.fails(BadRequest, number, joined, LAST, pool, number, (1,))
            self.fails(BadRequest, number, copied, LAST, pool, 0, number)

    def test_errors_of_functions_without_a_number(self):
        for function, more in ((is_true, ()), (free_pages, ()), (joined, (None, None))):
            for model in (*ODD, list(LAST)):
                self.fails(BadModel, model, function, model, None, *more)
            for pool in (None, [], list(SHARED), SHARED[:2], (2, SHARED[1], SHARED[2][:2]), NETS):
                self.fails(BadPool, pool, function, LAST, pool, *more)
        for model in ODD:
            self.fails(BadModel, model, is_pool, model, None)
        self.same(is_pool(thing=SHARED, model=LAST), True)
        self.same(is_true(pool=SHARED, model=LAST), True)
        self.same(free_pages(pool=SHARED, model=LAST), 2)

    def test_any_values_as_the_pool(self):
        for thing in spoiled(SHARED):
            if by_hand.is_right_pool(LAST, thing):
                self.assertIs(is_true(LAST, thing), by_hand.is_true_pool(LAST, thing))
                self.same(free_pages(LAST, thing), [page is None for page in thing[1]].count(True))
            else:
                self.fails(BadPool, thing, is_true, LAST, thing)
                self.fails(BadPool, thing, kept, LAST, thing, None)

    def test_beyond_the_limits(self):
        pool = new_pool(LAST, 60, 9)
        for number in range(20):
            pool = filled(LAST, joined(LAST, pool, number, (1,) * 12), number, (1,) * 12)
        self.assertIs(is_true(LAST, pool), True)
        self.same(free_pages(LAST, pool), 60 - 20 * 2)
        self.same(len(kept(LAST, pool, 19)), 21)


class Changes(Case):

    def change(self, source, model, pool, numbers):
        """Return a change with its arguments, and the number of the request that it changes."""
        word = source.choice(("join", "add", "add", "add", "add", "copy", "clear", "lose"))
        listed = [number for number, _ in pool[2]]
        if word == "join" or not listed:
            number = source.choice([number for number in range(numbers) if number not in listed] or [max(listed) + 1])
            tokens = tuple(source.randrange(model[1]) for _ in range(source.randint(1, 7)))
            return "join", number, (tokens,)
        number = source.choice(listed)
        if word == "copy":
            return word, number, (max(listed) + 1 if source.random() < 0.5 or min(listed) == 0 else min(listed) - 1,)
        if word == "add":
            token = source.randrange(model[1])
            before = tuple(row for _, row in kept(model, pool, number))
            return word, number, (token, stepped(model, before, token)[0])
        return word, number, ()

    def test_as_by_hand(self):
        functions = {"join": joined, "add": added, "copy": copied, "clear": cleared, "lose": lost}
        source = random.Random(42)
        seen = {None: 0}
        for _ in range(120):
            model = drawn.some_model(source, source.randint(2, 3))
            pool = new_pool(model, source.randint(1, 8), source.randint(1, 4))
            for _ in range(40):
                word, number, given = self.change(source, model, pool, 5)
                right = by_hand.Pool(pool)
                there = getattr(right, word)(number, *given)
                found = functions[word](model, pool, number, *given)
                if word == "add" and not there:
                    self.same(found, None)
                    seen[None] += 1
                    continue
                self.same(found, right.value())
                self.check_what_stays(model, pool, found, number)
                if word == "add":
                    self.same(kept(model, found, number), (*kept(model, pool, number), given))
                seen[word] = seen.get(word, 0) + 1
                pool = found
        self.assertGreater(min(seen.values()), 100)

    def check_what_stays(self, model, pool, found, number):
        self.assertIs(is_pool(model, found), True)
        self.assertIs(is_true(model, found), True)
        for other, _ in pool[2]:
            if other != number:
                self.same(kept(model, found, other), kept(model, pool, other))


if __name__ == "__main__":
    unittest.main()
