"""Best outcomes, beams and their certificates [9.1], [9.2], [9.3]."""

import random
import unittest
from fractions import Fraction

import by_hand
import by_hand_chances
import drawn
from draftward.beams import beam_holds, beam_outcome, best_outcomes, judge_beam
from draftward.errors import BadModel, BadNumber, BadPrompt, BadSettings
from draftward.writer import plain_chance, plain_chances
from samples import ODD, Case, spoiled

COIN = ("window", 3, 0, (), (1, 2, 1))
EVEN = ("window", 3, 0, (), (1, 1, 1))
NEVER = ("window", 3, 0, (), (0, 1, 1))
LURE = ("window", 3, 1, (((1,), (0, 3, 2)), ((2,), (8, 1, 1))), (1, 1, 1))
PAIR = ("window", 2, 0, (), (1, 1))

GIVEN = {"model": LURE, "settings": (), "prompt": (1,), "most": 3}
FAULTS = (
    (BadModel, "model", (None, [], list(LURE), "net", ("window", 3, 0, (), (True, 1, 1)))),
    (BadSettings, "settings", (None, [], (("power", 0),), (("ban", (3,)),), (("least", True),), [("least", 1)])),
    (BadPrompt, "prompt", (None, (), (0,), (3,), [1], (True,), (1, 0), "1")),
    (BadNumber, "most", (None, -1, True, False, "3", (3,), -(10 ** 39))),
)
NUMBERS = (None, 0, -1, True, False, "1", (1,), [1], -(10 ** 39), {})


def some_lure(source, most=4):
    """Return (model, settings, prompt, most) with a model that goes on otherwise behind each token."""
    entries = tuple(((token,), drawn.some_weights(source, 3, 9)) for token in (1, 2))
    return ("window", 3, 1, entries, (1, 1, 1)), (), (1,), source.randint(1, most)


def some_asking(source, most=4):
    if source.random() < 0.4:
        return some_lure(source, most)
    size = source.randint(2, 4)
    return (drawn.some_model(source, size), drawn.some_settings(source, size), drawn.some_prompt(source, size),
            source.randint(0, most))


class Best(Case):

    def test_those_of_the_document(self):
        self.same(best_outcomes(LURE, (), (1,), 2, 2), ((((1, 1), "most"), (9, 25)), (((2,), "end"), (8, 25))))

    def test_equal_chances_by_the_lesser_outcome(self):
        third, ninth = (1, 3), (1, 9)
        self.same(best_outcomes(EVEN, (), (1,), 1, 9), ((((), "end"), third), (((1,), "most"), third), (((2,), "most"), third)))
        self.same(best_outcomes(EVEN, (), (1,), 2, 9),
                  ((((), "end"), third), *[((answer, reason), ninth) for answer, reason in (
                      ((1,), "end"), ((1, 1), "most"), ((1, 2), "most"), ((2,), "end"), ((2, 1), "most"), ((2, 2), "most"))]))

    def test_fewer_outcomes_than_are_asked_for(self):
        for number in (3, 4, 400, 10 ** 39):
            self.same(len(best_outcomes(COIN, (), (1,), 1, number)), 3)
        self.same(best_outcomes(COIN, (), (1,), 1, 3), ((((1,), "most"), (1, 2)), (((), "end"), (1, 4)), (((2,), "most"), (1, 4))))
        for number in (1, 2):
            self.same(best_outcomes(COIN, (), (1,), 1, number), best_outcomes(COIN, (), (1,), 1, 3)[:number])

    def test_outcomes_whose_chance_is_0_do_not_count(self):
        self.same(best_outcomes(NEVER, (), (1,), 1, 9), ((((1,), "most"), (1, 2)), (((2,), "most"), (1, 2))))
        self.same(best_outcomes(COIN, (("ban", (1, 2)),), (1,), 3, 9), ((((), "end"), (1, 1)),))

    def test_most_0(self):
        for number in (1, 2):
            self.same(best_outcomes(COIN, (), (1,), 0, number), ((((), "most"), (1, 1)),))

    def test_as_by_hand(self):
        source = random.Random(91)
        for _ in range(200):
            given = model, settings, prompt, most = some_asking(source)
            right = by_hand_chances.all_outcomes(by_hand.plain(model, settings, prompt), model[1], most)
            right = tuple((outcome, by_hand.pair(worth)) for outcome, worth in right)
            for number in (1, 2, source.randint(1, 30), 400):
                self.same(best_outcomes(*given, number), right[:number])
            self.same(tuple(sorted(best_outcomes(*given, 400))), plain_chances(*given))

    def test_chances_that_hardly_differ(self):
        near = ("window", 3, 0, (), (10 ** 39, 10 ** 39 + 1, 10 ** 39 - 1))
        self.same([outcome for outcome, _ in best_outcomes(near, (), (1,), 1, 3)], [((1,), "most"), ((), "end"), ((2,), "most")])
        self.same(beam_outcome(near, (), (1,), 1, 1)[0], ((1,), "most"))


class Beams(Case):

    def test_those_of_the_document(self):
        self.same(beam_outcome(LURE, (), (1,), 3, 1), (((1, 1, 1), "most"), (27, 125)))
        self.same(beam_outcome(LURE, (), (1,), 3, 2), (((2,), "end"), (8, 25)))

    def test_most_0(self):
        for width in (1, 2, 400):
            self.same(beam_outcome(COIN, (), (1,), 0, width), (((), "most"), (1, 1)))
            self.same(judge_beam(COIN, (), (1,), 0, width), ("best",))

    def test_an_outcome_that_was_found_early_stays_the_best(self):
        # The greatest weights alone give 1 at each place, with a chance that grows less and less.
        for most in (3, 4, 5, 6):
            self.same(beam_outcome(COIN, (), (1,), most, 1), (((), "end"), (1, 4)))
        self.same(beam_outcome(COIN, (), (1,), 2, 1), (((), "end"), (1, 4)))
        self.same(beam_outcome(COIN, (), (1,), 1, 1), (((1,), "most"), (1, 2)))

    def test_the_best_open_answers_stay(self):
        # From the start 1, 2 and 3 have 2, 5 and 3 of 10; only 1 is followed by the end at once.
        model = ("window", 4, 3, (((1, 2, 3), (0, 2, 5, 3)), ((2, 3, 1), (1, 0, 0, 0))), (1, 1, 1, 1))
        for width, right in ((1, (((2,), "end"), (1, 8))), (2, (((2,), "end"), (1, 8))), (3, (((1,), "end"), (1, 5)))):
            self.same(beam_outcome(model, (), (1, 2, 3), 2, width), right)
            self.same(judge_beam(model, (), (1, 2, 3), 2, width), ("best",) if width == 3 else ("missed", ((1,), "end")))

    def test_equal_open_answers_by_the_lesser_one(self):
        # Of 1 and 2, which are equal, only 1 stays; behind 2 the answer would end at once.
        model = ("window", 4, 3, (((1, 2, 3), (0, 1, 1, 0)), ((2, 3, 2), (1, 0, 0, 0))), (1, 1, 1, 1))
        self.same(beam_outcome(model, (), (1, 2, 3), 2, 1), (((1,), "end"), (1, 8)))
        self.same(beam_outcome(model, (), (1, 2, 3), 2, 2), (((2,), "end"), (1, 2)))

    def test_equal_outcomes_by_the_lesser_one(self):
        self.same(beam_outcome(EVEN, (), (1,), 1, 2), (((), "end"), (1, 3)))
        self.same(beam_outcome(NEVER, (), (1,), 2, 1), (((1, 1), "most"), (1, 4)))

    def test_tokens_whose_weight_is_0_do_not_go_on(self):
        self.same(beam_outcome(NEVER, (("ban", (1,)),), (1,), 3, 5), (((2, 2, 2), "most"), (1, 1)))
        self.same(beam_outcome(COIN, (("ban", (1, 2)),), (1,), 3, 1), (((), "end"), (1, 1)))

    def test_as_by_hand(self):
        source = random.Random(92)
        seen = {"best": 0, "missed": 0}
        for _ in range(800):
            given = model, settings, prompt, most = some_asking(source)
            best = by_hand_chances.all_outcomes(by_hand.plain(model, settings, prompt), model[1], most)[0][0]
            for width in (1, 2, source.randint(1, 9)):
                right = by_hand_pair(*given, width)
                self.same(beam_outcome(*given, width), right)
                certificate = ("best",) if right[0] == best else ("missed", best)
                seen[certificate[0]] += 1
                self.same(judge_beam(*given, width), certificate)
                self.assertIs(beam_holds(*given, width, certificate), True)
                self.same(right[1], plain_chance(*given, right[0]))
        self.assertGreater(min(seen.values()), 20)


def by_hand_pair(model, settings, prompt, most, width):
    outcome, worth = by_hand_chances.beam(by_hand.plain(model, settings, prompt), model[1], most, width)
    return outcome, by_hand.pair(worth)


class Certificates(Case):

    def test_those_of_the_document(self):
        self.same(judge_beam(LURE, (), (1,), 3, 1), ("missed", ((2,), "end")))
        self.same(judge_beam(LURE, (), (1,), 3, 2), ("best",))

    def test_a_beam_that_is_wide_enough_finds_the_best_outcome(self):
        source = random.Random(93)
        for _ in range(200):
            given = model, _, _, most = some_asking(source)
            for more in (0, 1, 10 ** 39):
                width = (model[1] - 1) ** most + more
                self.same(judge_beam(*given, width), ("best",))
                self.same(beam_outcome(*given, width), best_outcomes(*given, 1)[0])

    def test_no_beam_is_better_than_the_best(self):
        source = random.Random(94)
        for _ in range(200):
            given = some_asking(source)
            best = Fraction(*best_outcomes(*given, 1)[0][1])
            for width in (1, 2, 3):
                self.assertLessEqual(Fraction(*beam_outcome(*given, width)[1]), best)

    def test_only_the_certificate_holds(self):
        for width in (1, 2):
            right = judge_beam(LURE, (), (1,), 3, width)
            for thing in (*ODD, *spoiled(right), *spoiled(("best",)), "best", ["best"], list(right), ("best", ((2,), "end")),
                          ("missed", ((1, 1, 1), "most")), ("missed", ((2,), "most")), ("missed", ((True,), "end")), ("missed",)):
                self.assertIs(beam_holds(LURE, (), (1,), 3, width, thing), repr(thing) == repr(right), thing)

    def test_at_the_limits(self):
        source = random.Random(95)
        for size, most in ((8, 2), (3, 8), (5, 4), (2, 39), (6, 3)):
            weights = [tuple(source.randint(0, 1000) for _ in range(size)) for _ in range(3)]
            model = ("window", size, 1, (((1,), weights[0]),), weights[1])
            settings = (("power", 4), ("power", 4), ("seen", 100, 99), ("least", 1))
            for width in (1, 20, 400):
                best = best_outcomes(model, settings, (1,), most, 1)[0]
                found = beam_outcome(model, settings, (1,), most, width)
                self.assertLessEqual(Fraction(*found[1]), Fraction(*best[1]))
                self.same(judge_beam(model, settings, (1,), most, width), ("best",) if found == best else ("missed", best[0]))
            self.same(found, best)


class Errors(Case):

    def test_each_comes_before_those_behind_it(self):
        for function, more in ((best_outcomes, {"number": None}), (beam_outcome, {"width": None}), (judge_beam, {"width": None}),
                               (beam_holds, {"width": None, "thing": None})):
            for at, (error, name, wrong) in enumerate(FAULTS):
                for thing in wrong:
                    later = {other: "Wrong" for _, other, _ in FAULTS[at + 1:]}
                    self.fails(error, thing, function, **{**GIVEN, **later, **more, name: thing})
                    self.fails(error, thing, function, *{**GIVEN, name: thing, **more}.values())

    def test_numbers_and_widths(self):
        for number in NUMBERS:
            self.fails(BadNumber, number, best_outcomes, **GIVEN, number=number)
            self.fails(BadNumber, number, beam_outcome, **GIVEN, width=number)
            self.fails(BadNumber, number, judge_beam, **{**GIVEN, "most": 0}, width=number)
            self.fails(BadNumber, number, beam_holds, **GIVEN, width=number, thing=("best",))

    def test_beyond_the_limits(self):
        self.same(len(best_outcomes(COIN, (), (1,) * 50, 9, 10 ** 4)), 2 ** 10 - 1)
        self.same(judge_beam(COIN, (), (1,) * 50, 9, 600), ("best",))
        self.same(beam_outcome(PAIR, (("least", 50),), (1,), 50, 1), (((1,) * 50, "most"), (1, 1)))


if __name__ == "__main__":
    unittest.main()
