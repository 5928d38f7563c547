"""What models are, and window models [2.1], [2.2], [2.4]."""

import itertools
import unittest

from draftward.errors import BadModel, BadRows, BadToken, BadTokens
from draftward.models import is_model, judge_rows, model_size, model_weights, rows_of, stepped
from samples import ODD, Case, is_int, spoiled

LAST = ("window", 3, 1, (((1,), (0, 1, 3)),), (1, 2, 1))
NONE = ("window", 2, 0, (), (0, 1))
EMPTY = ("window", 2, 0, (((), (5, 0)),), (1, 1))
THREE = ("window", 3, 3, (((), (9, 9, 9)), ((1,), (1, 0, 0)), ((1, 2), (2, 0, 0)), ((1, 2, 1), (3, 0, 0)),
                          ((2,), (4, 0, 0)), ((2, 1), (5, 0, 0))), (0, 0, 7))
ONE = ((1,),)
FLAT = ("net", 2, 1, ((1,), (2,)), ((0,), (-1,)), (), ((0,), (1,)))
NET = ("net", 2, 1, ((1,), (2,)), ((0,),), ((ONE, ONE, ONE, ONE),), ((0,), (1,)))
EYE = ((1, 0), (0, 1))
TWO = ("net", 2, 2, ((1, 0), (0, 2)), ((0, 1),), ((EYE, EYE, EYE, EYE), (EYE, EYE, EYE, EYE)), ((0, 1), (1, 0)))
MODELS = (LAST, NONE, EMPTY, THREE, FLAT, NET, TWO)


def are_ints(thing, many):
    return type(thing) is tuple and len(thing) == many and all(map(is_int, thing))


def are_right_weights(thing, many):
    return type(thing) is tuple and are_ints(thing, many) and min(thing) >= 0 and max(thing) > 0


def is_right_window(thing):
    _, many, k, entries, default = thing
    if not are_ints((many, k), 2) or many < 2 or k < 0 or not are_right_weights(default, many):
        return False
    if type(entries) is not tuple:
        return False
    lasts = []
    for entry in entries:
        if type(entry) is not tuple or len(entry) != 2 or not are_right_weights(entry[1], many):
            return False
        if type(entry[0]) is not tuple or len(entry[0]) > k or not are_ints(entry[0], len(entry[0])):
            return False
        if not set(entry[0]) <= set(range(many)):
            return False
        lasts.append(entry[0])
    return lasts == sorted(set(lasts))


def are_right_vectors(thing, many, width):
    return type(thing) is tuple and len(thing) == many and all(are_ints(vector, width) for vector in thing)


def is_right_net(thing):
    _, many, width, embeds, places, layers, outs = thing
    if not are_ints((many, width), 2) or many < 2 or width < 1 or not type(places) is type(layers) is tuple:
        return False
    if not are_right_vectors(embeds, many, width) or not are_right_vectors(outs, many, width):
        return False
    if not places or not are_right_vectors(places, len(places), width):
        return False
    return all(type(layer) is tuple and len(layer) == 4 and all(are_right_vectors(m, width, width) for m in layer)
               for layer in layers)


def is_right(thing):
    """Tell whether thing is a model, in other words than the program's."""
    if type(thing) is not tuple:
        return False
    if len(thing) == 5 and thing[0] == "window":
        return is_right_window(thing)
    return len(thing) == 7 and thing[0] == "net" and is_right_net(thing)


def is_right_row(model, row):
    if type(row) is not tuple:
        return False
    if model[0] == "window":
        return are_ints(row, 1) and 0 <= row[0] < model[1]
    return len(row) == len(model[5]) and all(are_right_vectors(pair, 2, model[2]) for pair in row)


def replaced(model, at, part):
    return (*model[:at], part, *model[at + 1:])


class Models(Case):

    def test_right_ones(self):
        for model in MODELS:
            self.assertIs(is_model(model), True)
            self.assertIs(is_right(model), True)

    def test_any_values(self):
        for thing in ODD:
            self.assertIs(is_model(thing), False, thing)
        for model in MODELS:
            for thing in spoiled(model):
                self.assertIs(is_model(thing), is_right(thing), thing)

    def test_forms(self):
        for thing in (list(LAST), LAST[:4], (*LAST, ()), NET[:6], (*NET, ()), replaced(LAST, 0, "net"),
                      replaced(NET, 0, "window"), replaced(LAST, 0, "window\n"), replaced(NET, 0, "Net"),
                      replaced(NET, 0, None), replaced(LAST, 0, ["window"]), "window", "net", ("net",)):
            self.assertIs(is_model(thing), False, thing)

    def test_sizes(self):
        for many in (1, 0, -1, 2, 4, True, "3", None, 10 ** 39, [3]):
            self.assertIs(is_model(replaced(LAST, 1, many)), False, many)
        for many in (1, 0, 3, True, "2", None, 10 ** 39):
            self.assertIs(is_model(replaced(NET, 1, many)), False, many)
        self.assertIs(is_model(("window", 1, 0, (), (1,))), False)
        self.assertIs(is_model(("net", 1, 1, ONE, ONE, (), ONE)), False)
        self.assertIs(is_model(("net", 2, 0, ((), ()), ((),), (), ((), ()))), False)

    def test_last_tokens(self):
        for k in (-1, True, False, None, "1", (), [1], -(10 ** 39)):
            self.assertIs(is_model(replaced(LAST, 2, k)), False, k)
        for k in (1, 2, 3, 10 ** 39):
            self.assertIs(is_model(replaced(LAST, 2, k)), True, k)
        self.assertIs(is_model(replaced(LAST, 2, 0)), False)
        for last in ((), (0,), (2,), (1,)):
            self.assertIs(is_model(replaced(LAST, 3, ((last, (1, 1, 1)),))), True, last)
        for last in ((3,), (-1,), (True,), (1, 1), [1], 1, None, "1", ("1",), ((1,),)):
            self.assertIs(is_model(replaced(LAST, 3, ((last, (1, 1, 1)),))), False, last)

    def test_weights(self):
        for weights in ((1, 2, 1), (0, 0, 1), (5, 0, 0), (10 ** 39, 0, 0)):
            self.assertIs(is_model(replaced(LAST, 4, weights)), True, weights)
            self.assertIs(is_model(replaced(LAST, 3, (((1,), weights),))), True, weights)
        for weights in ((0, 0, 0), (1, 2), (1, 2, 1, 1), (-1, 2, 1), (1, 2, -1), (True, 2, 1), (0, 1, False), [1, 2, 1],
                        (1, None, 1), ("1", 2, 1), None, 4, (), (1, (2,), 1), "121"):
            self.assertIs(is_model(replaced(LAST, 4, weights)), False, weights)
            self.assertIs(is_model(replaced(LAST, 3, (((1,), weights),))), False, weights)

    def test_entries(self):
        one = (1, 1, 1)
        two = (2, 1, 1)
        for entries in ((), (((1,), one),), (((), one), ((0,), one), ((2,), one))):
            self.assertIs(is_model(replaced(LAST, 3, entries)), True, entries)
        for entries in ([], None, (((2,), one), ((1,), one)), (((1,), one), ((1,), one)), (((1,), one), ((1,), two)),
                        (((1,),),), (((1,), one, one),), ([(1,), one],), ((1,),), (None,), (((1,), one), ()), {}):
            self.assertIs(is_model(replaced(LAST, 3, entries)), False, entries)
        self.assertIs(is_model(replaced(LAST, 3, (((0,), two), ((1,), one)))), True)

    def test_networks(self):
        for at in (3, 6):
            for part in (((1,),), ((1,), (2,), (3,)), ((1,), (2, 3)), ((1,), ()), ((1,), (True,)), ((1,), [2]), [(1,), (2,)],
                         ((1,), 2), ((1,), ("2",)), None, (), ((1,), None)):
                self.assertIs(is_model(replaced(NET, at, part)), False, part)
        for places in (((0,),), ((0,), (9,)), ((0,),) * 9, ((-(10 ** 39),),)):
            self.assertIs(is_model(replaced(NET, 4, places)), True, places)
        for places in ((), [(0,)], ((0, 0),), ((),), ((False,),), (0,), None, ([0],)):
            self.assertIs(is_model(replaced(NET, 4, places)), False, places)

    def test_layers(self):
        for layers in ((), ((ONE, ONE, ONE, ((-7,),)),), ((ONE,) * 4,) * 3):
            self.assertIs(is_model(replaced(NET, 5, layers)), True, layers)
        for layers in ([], None, ((ONE,) * 3,), ((ONE,) * 5,), ([ONE] * 4,), (ONE,) * 4, ((ONE, ONE, ONE, None),),
                       ((ONE, ONE, ONE, ()),), ((ONE, ONE, ONE, ((1, 1),)),), ((ONE, ONE, ONE, ((1,), (1,))),),
                       ((ONE, ONE, ONE, ((True,),)),), ((ONE, ONE, ONE, [(1,)]),), ((ONE, ONE, ONE, ([1],)),)):
            self.assertIs(is_model(replaced(NET, 5, layers)), False, layers)

    def test_size(self):
        self.same([model_size(model) for model in MODELS], [3, 2, 2, 3, 2, 2, 2])


class Windows(Case):

    def test_weights_of_the_last_tokens(self):
        self.same(model_weights(LAST, (1,)), (0, 1, 3))
        self.same(model_weights(LAST, (2,)), (1, 2, 1))
        self.same(model_weights(LAST, (1, 2)), (1, 2, 1))
        self.same(model_weights(LAST, (0, 0, 1)), (0, 1, 3))

    def test_no_last_tokens(self):
        for tokens in ((0,), (1,), (1, 1, 0)):
            self.same(model_weights(NONE, tokens), (0, 1))
            self.same(model_weights(EMPTY, tokens), (5, 0))

    def test_fewer_tokens_than_the_last_ones(self):
        self.same(model_weights(THREE, (1,)), (1, 0, 0))
        self.same(model_weights(THREE, (2,)), (4, 0, 0))
        self.same(model_weights(THREE, (1, 2)), (2, 0, 0))
        self.same(model_weights(THREE, (2, 1)), (5, 0, 0))
        self.same(model_weights(THREE, (0,)), (0, 0, 7))

    def test_an_entry_shorter_than_the_last_ones_counts_only_for_all_tokens(self):
        self.same(model_weights(THREE, (1, 2, 1)), (3, 0, 0))
        self.same(model_weights(THREE, (2, 1, 2, 1)), (3, 0, 0))
        self.same(model_weights(THREE, (0, 1, 2)), (0, 0, 7))
        self.same(model_weights(THREE, (2, 2, 1)), (0, 0, 7))
        self.same(model_weights(THREE, (1, 1, 1)), (0, 0, 7))

    def test_very_many_last_tokens(self):
        model = replaced(THREE, 2, 10 ** 39)
        self.same(model_weights(model, (1, 2, 1)), (3, 0, 0))
        self.same(model_weights(model, (0, 1, 2, 1)), (0, 0, 7))

    def test_rows_are_the_tokens(self):
        for model in (LAST, THREE):
            for many in range(1, 5):
                for tokens in itertools.product(range(3), repeat=many):
                    self.same(rows_of(model, tokens), tuple((token,) for token in tokens))

    def test_rows_and_the_last_token_give_the_last_row_and_the_weights(self):
        for model in (LAST, NONE, EMPTY, THREE):
            for many in range(1, 6):
                for tokens in itertools.product(range(model[1]), repeat=many):
                    rows = rows_of(model, tokens)
                    found = stepped(model, rows[:-1], tokens[-1])
                    self.same(found, (rows[-1], model_weights(model, tokens)))

    def test_step_from_nothing(self):
        self.same(stepped(LAST, (), 1), ((1,), (0, 1, 3)))
        self.same(stepped(LAST, (), 0), ((0,), (1, 2, 1)))


class Judged(Case):

    def test_right(self):
        for model in MODELS:
            for many in (1, 2, 5):
                for tokens in itertools.product(range(model[1]), repeat=many):
                    self.same(judge_rows(model, tokens, rows_of(model, tokens)), ("right",))

    def test_wrong(self):
        tokens = (2, 1, 0)
        for thing, at in (((), 0), (((2,),), 1), (((2,), (1,)), 2), (((2,), (1,), (0,), (0,)), 3), (((1,),), 0),
                          (((2,), (0,), (0,)), 1), (((2,), (1,), (1,), (1,)), 2), (((2,), (True,), (0,)), 1),
                          (((2,), (1,), (False,)), 2), (([2], (1,), (0,)), 0), (((2,), 1, (0,)), 1), ((2, 1, 0), 0),
                          (((2,), (1, 1), (0,)), 1), (((2,), (), (0,)), 1), (((2,), None, []), 1), (("right",), 0)):
            self.same(judge_rows(LAST, tokens, thing), ("wrong", at))

    def test_a_number_of_another_kind_is_different(self):
        self.same(judge_rows(LAST, (2, 1), ((2,), (1.0,))), ("wrong", 1))
        self.same(judge_rows(NET, (1,), ((((2,), (2.0,)),),)), ("wrong", 0))

    def test_wrong_rows_of_networks(self):
        right = rows_of(NET, (1, 0))
        self.same(right, ((((2,), (2,)),), (((1,), (1,)),)))
        self.same(judge_rows(NET, (1, 0), (right[0], (((True,), (1,)),))), ("wrong", 1))
        self.same(judge_rows(NET, (1, 0), (right[0], (((1,), (True,)),))), ("wrong", 1))
        self.same(judge_rows(NET, (1, 0), (right[0], (((1,), [1]),))), ("wrong", 1))
        self.same(judge_rows(NET, (1, 0), (right[0], ((1,), (1,)))), ("wrong", 1))
        self.same(judge_rows(NET, (1, 0), ((((2,), (1,)),), right[1])), ("wrong", 0))
        self.same(judge_rows(NET, (1, 0), (*right, ())), ("wrong", 2))
        self.same(judge_rows(FLAT, (1, 0), ((), ())), ("right",))
        self.same(judge_rows(FLAT, (1, 0), ((), (), ())), ("wrong", 2))
        self.same(judge_rows(FLAT, (1, 0), ((), [])), ("wrong", 1))

    def test_none(self):
        for thing in ([], [(2,)], None, True, 0, "", "right", {}, [(2,), (1,), (0,)]):
            self.same(judge_rows(LAST, (2, 1, 0), thing), ("none",))

    def test_any_values(self):
        for model in (LAST, NET, TWO):
            right = rows_of(model, (0, 1, 1))
            for thing in spoiled(right):
                if type(thing) is not tuple:
                    told = ("none",)
                elif repr(thing) == repr(right):
                    told = ("right",)
                else:
                    filled = zip([*map(repr, thing), *"####"], [*map(repr, right), *("?" * (len(thing) + 4))])
                    told = ("wrong", [one == other for one, other in filled].index(False))
                self.same(judge_rows(model, (0, 1, 1), thing), told)


class Errors(Case):

    def test_the_model_comes_first(self):
        for thing in (None, [], list(LAST), replaced(LAST, 1, True), replaced(NET, 4, ()), "net"):
            self.fails(BadModel, thing, model_size, thing)
            self.fails(BadModel, thing, model_weights, thing, None)
            self.fails(BadModel, thing, rows_of, thing, None)
            self.fails(BadModel, thing, stepped, thing, None, None)
            self.fails(BadModel, thing, judge_rows, thing, None, None)
            self.fails(BadModel, thing, model_weights, thing, (1,))
            self.fails(BadModel, thing, rows_of, thing, (1,))
            self.fails(BadModel, thing, stepped, thing, (), 1)
            self.fails(BadModel, thing, judge_rows, thing, (1,), ())

    def test_any_values_in_place_of_the_model(self):
        for model in (LAST, NET):
            for thing in spoiled(model):
                if not is_right(thing):
                    self.fails(BadModel, thing, model_size, thing)
                    self.fails(BadModel, thing, stepped, thing, None, None)

    def test_wrong_tokens(self):
        for tokens in ((), [1], [], None, 1, True, "1", {}, (2,), (-1,), (1, 2), (True,), (0, False), ("1",), (None,),
                       ((1,),), (1, 10 ** 39), ([],)):
            for model in (NONE, NET, FLAT):
                self.fails(BadTokens, tokens, model_weights, model, tokens)
                self.fails(BadTokens, tokens, rows_of, model, tokens)
                self.fails(BadTokens, tokens, judge_rows, model, tokens, tokens)

    def test_wrong_rows_come_before_a_wrong_token(self):
        for rows in ([], [(1,)], None, 1, "", {}, ((3,),), ((-1,),), ((True,),), ((),), ((1, 1),), (1,), ([1],),
                     ((1,), None), (("1",),), (((1,),),)):
            for token in (None, 3, 1):
                self.fails(BadRows, rows, stepped, LAST, rows, token)
        pair = ((2,), (2,))
        for rows in ([(pair,)], ((),), (pair,), ((pair, pair),), ((((2,),),),), ((((2,), (2,), (2,)),),), (([(2,), (2,)],),),
                     ((((2,), (True,)),),), ((((2,), (2, 2)),),), ((((2,), ()),),), ((((2,), [2]),),), ((pair,), ()),
                     ([pair],), ((pair,), None), (((2, 2),),)):
            for token in (None, 2, 1):
                self.fails(BadRows, rows, stepped, NET, rows, token)
        for rows in ((1,), ((1,),), ((pair,),), ((), (pair,)), ([],), (None,)):
            self.fails(BadRows, rows, stepped, FLAT, rows, None)

    def test_any_values_as_rows(self):
        for model in (LAST, NET, TWO, FLAT):
            for rows in spoiled(rows_of(model, (1, 0))):
                if type(rows) is tuple and all(is_right_row(model, row) for row in rows):
                    row, weights = stepped(model, rows, 1)
                    self.assertTrue(is_right_row(model, row))
                    self.assertTrue(are_right_weights(weights, model[1]))
                else:
                    self.fails(BadRows, rows, stepped, model, rows, None)

    def test_wrong_token(self):
        for token in (*ODD, 3, (0,), "0"):
            for model in (LAST, NET):
                if not is_int(token) or not 0 <= token < model[1]:
                    self.fails(BadToken, token, stepped, model, (), token)
                    self.fails(BadToken, token, stepped, model, rows_of(model, (1, 0)), token)

    def test_by_name(self):
        self.same(is_model(thing=LAST), True)
        self.same(model_size(model=LAST), 3)
        self.same(model_weights(tokens=(1,), model=LAST), (0, 1, 3))
        self.same(rows_of(tokens=(1,), model=LAST), ((1,),))
        self.same(stepped(token=1, rows=((2,),), model=LAST), ((1,), (0, 1, 3)))
        self.same(judge_rows(thing=(), tokens=(1,), model=LAST), ("wrong", 0))
        self.fails(BadRows, None, stepped, token=None, rows=None, model=LAST)
        self.fails(BadTokens, (), judge_rows, thing=None, tokens=(), model=LAST)

    def test_beyond_the_limits(self):
        wide = ("window", 12, 6, (((1,) * 6, (2000,) * 12),), (5000,) * 12)
        self.same(model_weights(wide, (1,) * 70), (2000,) * 12)
        self.same(model_weights(wide, (1,) * 5), (5000,) * 12)
        many = ("window", 9, 2, tuple(((i, j), (i + 1,) * 9) for i in range(9) for j in range(9)), (1,) * 9)
        self.same(model_weights(many, (3, 8, 8, 4)), (9,) * 9)
        self.same(len(rows_of(NET, (1, 0) * 30)), 60)


if __name__ == "__main__":
    unittest.main()
