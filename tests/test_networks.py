"""What networks do, and the rows that are kept [2.3], [2.4]."""

import math
import random
import unittest
from fractions import Fraction

from draftward.models import is_model, judge_rows, model_weights, rows_of, stepped
from samples import Case

ONE = ((1,),)
NIL = ((0,),)
EYE = ((1, 0), (0, 1))


def net(embeds, places, layers, outs):
    return ("net", len(embeds), len(embeds[0]), embeds, places, layers, outs)


def product(one, other):
    return sum(one[at] * other[at] for at in range(len(one)))


def by_hand(model, tokens):
    """Return the rows and the weights, worked out for all positions layer by layer, from the words of [2.3]."""
    _, _, width, embeds, places, layers, outs = model
    items = range(width)

    def clip(vector):
        return tuple(-20 if item < -20 else 20 if item > 20 else item for item in vector)

    def times(matrix, vector):
        return tuple(product(row, vector) for row in matrix)

    def mark(scores):
        return [Fraction(2) ** max(0, 6 - (max(scores) - score)) for score in scores]

    states = []
    for at, token in enumerate(tokens):
        place = places[at % len(places)]
        states.append(clip([embeds[token][item] + place[item] for item in items]))
    rows = [()] * len(tokens)
    for asking, keys, worths, mixing in layers:
        after = []
        for at, state in enumerate(states):
            rows[at] += ((times(keys, state), times(worths, state)),)
            shares = mark([product(times(asking, state), times(keys, states[r])) for r in range(at + 1)])
            mixed = [math.floor(sum(shares[r] * times(worths, states[r])[item] for r in range(at + 1)) / sum(shares))
                     for item in items]
            moved = times(mixing, mixed)
            after.append(clip([state[item] + moved[item] for item in items]))
        states = after
    return tuple(rows), tuple(int(weight) for weight in mark([product(out, states[-1]) for out in outs]))


def some_network(source, size=5):
    width = source.randint(1, 3)

    def vector():
        return tuple(source.randint(-size, size) for _ in range(width))

    def matrix():
        return tuple(vector() for _ in range(width))

    many = source.randint(2, 8)
    embeds = tuple(vector() for _ in range(many))
    places = tuple(vector() for _ in range(source.randint(1, 4)))
    layers = tuple(tuple(matrix() for _ in range(4)) for _ in range(source.randint(0, 2)))
    return net(embeds, places, layers, tuple(vector() for _ in range(many)))


class Networks(Case):

    def test_without_layers(self):
        model = net(((0,), (1,), (3,), (-9,)), ((0,),), (), ((0,), (1,), (2,), (-1,)))
        self.same(model_weights(model, (0,)), (64, 64, 64, 64))
        self.same(model_weights(model, (1,)), (16, 32, 64, 8))
        self.same(model_weights(model, (2,)), (1, 8, 64, 1))
        self.same(model_weights(model, (3,)), (1, 1, 1, 64))
        self.same(model_weights(model, (3, 2, 1)), (16, 32, 64, 8))
        self.same(rows_of(model, (1, 2)), ((), ()))
        self.same(stepped(model, ((), ()), 1), ((), (16, 32, 64, 8)))

    def test_weights_are_halved_for_each_point_less_but_at_least_1(self):
        model = net(tuple((at,) for at in range(9)), ((0,),), (), tuple((at,) for at in range(9)))
        self.same(model_weights(model, (1,)), (1, 1, 1, 2, 4, 8, 16, 32, 64))

    def test_places_come_again_after_their_number(self):
        model = net(((0,), (1,)), ((0,), (1,), (2,)), (), ((0,), (1,)))
        self.same([model_weights(model, (0,) * many) for many in range(1, 8)],
                  [(64, 64), (32, 64), (16, 64), (64, 64), (32, 64), (16, 64), (64, 64)])
        self.same(model_weights(model, (0, 1)), (16, 64))
        self.same(stepped(model, ((),) * 4, 0), ((), (32, 64)))

    def test_first_states_are_clipped_at_20(self):
        keys = (NIL, ONE, ONE, NIL)
        model = net(((15,), (-15,), (0,)), ((5,), (6,), (4,), (-5,), (-6,), (-4,)), (keys,), ((0,),) * 3)
        self.same([row[0][0] for row in rows_of(model, (0,) * 6)], [(20,), (20,), (19,), (10,), (9,), (11,)])
        self.same([row[0][0] for row in rows_of(model, (1,) * 6)], [(-10,), (-9,), (-11,), (-20,), (-20,), (-19,)])

    def test_huge_numbers_are_clipped(self):
        huge = 10 ** 39
        model = net(((huge,), (-huge,)), ((0,),), ((ONE, ONE, ONE, ((huge,),)), (NIL, ONE, ONE, NIL)), ((huge,), (0,)))
        self.same(rows_of(model, (0, 1)), ((((20,), (20,)), ((20,), (20,))), (((-20,), (-20,)), ((-20,), (-20,)))))
        self.same(model_weights(model, (0,)), (64, 1))
        self.same(model_weights(model, (0, 1)), (1, 64))

    def test_states_after_a_layer_are_clipped_at_20(self):
        for factor, state in ((1, 20), (2, 20), (-3, -20), (-4, -20)):
            model = net(((10,), (0,)), ((0,),), ((NIL, ONE, ONE, ((factor,),)), (NIL, ONE, ONE, NIL)), ((0,), (0,)))
            self.same(rows_of(model, (0,))[0][1], ((state,), (state,)))
        model = net(((4,), (5,)), ((0,),), ((NIL, ONE, ONE, ((4,),)),), ((20,), (21,)))
        self.same(model_weights(model, (0,)), (1, 64))
        model = net(((4,), (0,)), ((0,),), ((NIL, ONE, ONE, ((4,),)),), ((0,), (-1,)))
        self.same(model_weights(model, (0,)), (64, 1))

    def test_scores_and_mixed_vectors_are_not_clipped(self):
        model = net(((20,), (0,)), ((0,),), ((NIL, ONE, ((3,),), ONE), (NIL, ONE, ONE, NIL)), ((0,), (0,)))
        self.same(rows_of(model, (0,))[0][0], ((20,), (60,)))
        # The mixed vector 45 lifts -15 to 30, and that to 20; clipped to 20 before, it would lift it to 5.
        model = net(((-15,), (0,)), ((0,),), ((NIL, ONE, ((-3,),), ONE), (NIL, ONE, ONE, NIL)), ((0,), (0,)))
        self.same(rows_of(model, (0,))[0], (((-15,), (45,)), ((20,), (20,))))
        # The scores are 25 and 30, so that the shares are 2 and 64; clipped to 20 they would be the same.
        model = net(((5,), (6,)), ((0,),), ((ONE, ((5,),), ONE, ONE), (NIL, ONE, ONE, NIL)), ((0,), (0,)))
        self.same(rows_of(model, (0, 1))[1], (((30,), (6,)), ((11,), (11,))))
        model = net(((5,), (1,)), ((0,),), ((((5,),), ONE, ((9,),), ONE), (NIL, ONE, ONE, NIL)), ((0,), (0,)))
        self.same(rows_of(model, (1, 0))[1][1][0], (20,))

    def test_matrices_are_rows(self):
        keys = ((1, 2), (3, 4))
        worths = ((5, 6), (7, 8))
        model = net(((1, 0), (0, 1)), ((0, 0),), ((EYE, keys, worths, EYE),), ((0, 0), (0, 0)))
        self.same(rows_of(model, (0, 1)), ((((1, 3), (5, 7)),), (((2, 4), (6, 8)),)))

    def test_mixing_and_asking_are_rows(self):
        mixing = ((0, 1), (2, 0))
        zero = ((0, 0), (0, 0))
        model = net(((1, 3), (0, 0)), ((0, 0),), ((zero, zero, EYE, mixing), (zero, EYE, EYE, zero)), ((0, 0), (0, 0)))
        self.same(rows_of(model, (0,))[0][1], ((4, 5), (4, 5)))
        # At the position 1 the state (1, 0) asks with (0, 1), which the key of the position 0 answers better.
        turned = ((0, 0), (1, 0))
        worths = ((3, 0), (0, 3))
        model = net(((0, 1), (1, 0)), ((0, 0),), ((turned, EYE, worths, EYE), (zero, EYE, EYE, zero)), ((0, 0), (0, 0)))
        self.same(rows_of(model, (0, 1))[1][1][0], (2, 2))

    def test_quotients_are_rounded_down(self):
        layers = ((NIL, ONE, ONE, ONE), (NIL, ONE, ONE, NIL))
        model = net(((0,), (-1,), (1,)), ((0,),), layers, ((0,),) * 3)
        self.same([row[1][0] for row in rows_of(model, (0, 1))], [(0,), (-2,)])
        self.same([row[1][0] for row in rows_of(model, (0, 2))], [(0,), (1,)])
        self.same([row[1][0] for row in rows_of(model, (0, 0, 0, 1))], [(0,), (0,), (0,), (-2,)])
        self.same([row[1][0] for row in rows_of(model, (1, 0))], [(-2,), (-1,)])

    def test_shares_are_halved_for_each_point_less_but_at_least_1(self):
        # A worth of 200 at the position 0 is mixed with none: the share of it is what the mixed vector shows.
        for less, share in ((0, 64), (1, 32), (2, 16), (3, 8), (4, 4), (5, 2), (6, 1), (7, 1), (40, 1)):
            whole = share + 64
            embeds = ((1, 0, 0), (0, 1, 0), (0, 0, 0))
            asking = ((0, 1, 0), (0, 0, 0), (0, 0, 0))
            keys = ((0, less, 0), (0, 0, 0), (0, 0, 0))
            worths = ((0, 0, 0), (0, 0, 0), (200, 0, 0))
            mixing = ((0, 0, 0), (0, 0, 0), (0, 0, 1))
            layers = ((asking, keys, worths, mixing), (EYE3, EYE3, EYE3, EYE3))
            model = net(embeds, ((0, 0, 0),), layers, embeds)
            self.same(rows_of(model, (0, 1))[1][1][0], (0, 1, min(20, 200 * share // whole)))

    def test_a_position_looks_at_itself_and_at_all_before_it(self):
        layers = ((NIL, ONE, ((12,),), ONE), (NIL, ONE, ONE, NIL))
        model = net(((0,), (1,)), ((0,),), layers, ((0,), (0,)))
        self.same([row[1][0] for row in rows_of(model, (1, 0, 0, 0))], [(13,), (6,), (4,), (3,)])
        self.same([row[1][0] for row in rows_of(model, (0, 0, 0, 1))], [(0,), (0,), (0,), (4,)])

    def test_by_hand(self):
        source = random.Random(5)
        for size in (1, 2, 5, 5, 9):
            for _ in range(60):
                model = some_network(source, size)
                self.assertIs(is_model(model), True)
                tokens = tuple(source.randrange(model[1]) for _ in range(source.randint(1, 14)))
                rows, weights = by_hand(model, tokens)
                self.same(rows_of(model, tokens), rows)
                self.same(model_weights(model, tokens), weights)
                self.same(judge_rows(model, tokens, rows), ("right",))

    def test_rows_and_the_last_token_give_the_last_row_and_the_weights(self):
        source = random.Random(6)
        for _ in range(40):
            model = some_network(source)
            tokens = tuple(source.randrange(model[1]) for _ in range(12))
            rows = ()
            for at, token in enumerate(tokens):
                row, weights = stepped(model, rows, token)
                self.same(weights, model_weights(model, tokens[:at + 1]))
                rows += (row,)
                self.same(rows, rows_of(model, tokens[:at + 1]))

    def test_a_row_hangs_on_the_tokens_up_to_it_alone(self):
        source = random.Random(7)
        for _ in range(40):
            model = some_network(source)
            tokens = tuple(source.randrange(model[1]) for _ in range(10))
            others = tokens[:6] + tuple(source.randrange(model[1]) for _ in range(4))
            self.same(rows_of(model, tokens)[:6], rows_of(model, others)[:6])
            self.same(rows_of(model, tokens[:6]), rows_of(model, others)[:6])

    def test_forty_tokens_and_beyond(self):
        source = random.Random(8)
        for many in (40, 55):
            model = some_network(source)
            tokens = tuple(source.randrange(model[1]) for _ in range(many))
            self.same((rows_of(model, tokens), model_weights(model, tokens)), by_hand(model, tokens))

    def test_rows_of_any_numbers(self):
        huge = 10 ** 39
        model = net(((1,), (2,)), ((0,),), ((ONE, ONE, ONE, ONE),), ((0,), (1,)))
        self.same(stepped(model, ((((huge,), (-huge,)),),), 0), ((((1,), (1,)),), (64, 1)))
        self.same(stepped(model, ((((-huge,), (huge,)),),), 0), ((((1,), (1,)),), (1, 64)))


EYE3 = ((1, 0, 0), (0, 1, 0), (0, 0, 1))

if __name__ == "__main__":
    unittest.main()
