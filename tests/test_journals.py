"""Journals, cuts, and going on after them [10.1], [10.2], [10.3]."""

import random
import unittest

import by_hand
import by_hand_journals
import drawn
from draftward.errors import BadArrivals, BadJournal, BadNumber, BadServer
from draftward.journals import gone_on, is_journal, journal_after, shown
from draftward.servers import begun, ended, is_standing, stepped_once
from draftward.tokens import to_text
from samples import ODD, Case, spoiled

COIN = ("window", 3, 0, (), (1, 2, 1))
EVEN = ("window", 3, 0, (), (1, 1, 1))
LETTERS = ("vocabulary", "ab", ())
ENDS = ("grammar", 2, 0, (1,), ((0, "a", 0), (0, "b", 1)))
ROW = (EVEN, (), (("row", 2),))
ASK = ("request", (1,), 2, (), None, None, (3, 1))
HUGE = ("request", (1,) * 12, 40, (), None, None, ())
FULL = ("request", (2, 1, 1), 3, (("least", 1),), ROW, ENDS, (5, 0, 3, 1, 2))


def asking(prompt, most, tape=(), **more):
    return ("request", prompt, most, (), more.get("drafting"), more.get("grammar"), tape)


def serving(many=8, places=2, chunk=2, table=(("go",),), vocabulary=LETTERS):
    return (COIN, vocabulary, many, places, chunk, table)


SERVER = serving(2)
ARRIVALS = ((0, ASK),)
JOURNAL = ((0, (2,), None, 1), (0, (1,), "most", 2))

# Number 0 settles 2 and 1, number 1 is refused, number 2 ends at once, number 3 settles three tokens by rows.
MIXED = ((0, ASK), (0, HUGE), (1, asking((2,), 3)), (1, asking((1,), 4, (1, 1, 0, 0, 3, 0, 2), drafting=ROW)))
WIDE = serving(12)
ROWS = {0: JOURNAL, 1: ((1, "refused"),), 2: ((2, (), "end", 1),), 3: ((3, (1, 1, 2), None, 5), (3, (), "end", 7))}


def run_from(server, arrivals, standing):
    """Return the outcomes when all arrivals have some."""
    steps = 0
    while len(standing[3]) < len(arrivals):
        standing = stepped_once(server, arrivals, standing)
        steps += 1
        assert steps < 500
    return standing[3]


def rows_since(server, arrivals, before, after):
    """Return the journal's rows of the rounds and refusals that lead from one standing to the next one."""
    told = []
    assert by_hand.step(server, arrivals, before, told) == after
    rows = [(entry[1], "refused") if entry[0] == "refused" else entry[1:] for entry in told if entry[0] in ("refused", "round")]
    return tuple(rows)


class Journals(Case):

    def test_those_of_the_document(self):
        self.same(journal_after(SERVER, ARRIVALS, 2), JOURNAL[:1])
        self.same(journal_after(SERVER, ARRIVALS, 9), JOURNAL)

    def test_step_by_step(self):
        self.same([len(journal_after(SERVER, ARRIVALS, steps)) for steps in range(7)], [0, 0, 1, 1, 2, 2, 2])
        self.same(journal_after(SERVER, ARRIVALS, 0), ())
        self.same(journal_after(steps=10 ** 39, arrivals=ARRIVALS, server=SERVER), JOURNAL)
        self.same(journal_after(SERVER, (), 5), ())

    def test_refusals_and_rounds_in_the_order_in_which_they_happen(self):
        self.same(journal_after(WIDE, MIXED, 99), (
            ROWS[1][0], ROWS[0][0], ROWS[2][0], ROWS[3][0], ROWS[0][1], ROWS[3][1]))
        self.same(journal_after(WIDE, MIXED, 1), ROWS[1])
        # By a server with fewer pages number 2 waits until number 0 has ended, and number 3 until number 2 has.
        self.same(journal_after(serving(2), MIXED, 99), (ROWS[1][0], *JOURNAL, *ROWS[2], *ROWS[3]))

    def test_a_refusal_has_its_row_when_its_turn_comes(self):
        arrivals = ((0, ASK), (0, asking((1, 1, 1), 2)), (0, HUGE))
        journal = journal_after(SERVER, arrivals, 99)
        self.same(journal, (*JOURNAL, (2, "refused"), (1, (), "end", 1)))

    def test_as_by_hand(self):
        source = random.Random(101)
        for _ in range(150):
            server = drawn.some_server(source)
            arrivals = drawn.some_arrivals(source, server)
            for steps in (0, source.randint(1, 12), 500):
                right = by_hand_journals.journal(server, arrivals, steps)
                self.same(journal_after(server, arrivals, steps), right)
                self.assertIs(is_journal(server, arrivals, right), True)


class Forms(Case):

    def check(self, thing, right, server=WIDE, arrivals=MIXED):
        self.assertIs(is_journal(server, arrivals, thing), right, thing)
        self.assertIs(by_hand_journals.is_right_journal(server, arrivals, thing), right, thing)
        if not right:
            self.fails(BadJournal, thing, gone_on, server, arrivals, thing, None)
            self.fails(BadJournal, thing, shown, server, arrivals, thing)

    def test_that_of_the_document(self):
        self.assertIs(is_journal(SERVER, ARRIVALS, ((0, (1,), None, 1),)), False)

    def test_every_beginning(self):
        journal = journal_after(WIDE, MIXED, 99)
        for many in range(len(journal) + 1):
            self.check(journal[:many], True)
        self.check((), True, arrivals=())
        self.check(((0, "refused"),), False, arrivals=())

    def test_the_order_of_the_requests_is_not_judged(self):
        self.check(ROWS[3] + ROWS[2] + ROWS[1] + ROWS[0], True)
        self.check((ROWS[3][0], ROWS[0][0], ROWS[3][1], ROWS[1][0], ROWS[0][1]), True)
        self.check(ROWS[2], True)

    def test_the_order_of_the_rows_of_one_request_is(self):
        self.check(JOURNAL[1:], False)
        self.check(JOURNAL[::-1], False)
        self.check((JOURNAL[0], JOURNAL[0]), False)
        self.check((*JOURNAL, JOURNAL[1]), False)
        self.check((*JOURNAL, (0, (), "end", 3)), False)
        self.check((*ROWS[1], *ROWS[1]), False)
        self.check(ROWS[2] * 2, False)

    def test_refusals(self):
        self.check(ROWS[1], True)
        for number in (0, 2, 3):
            self.check(((number, "refused"),), False)
        for row in ((1, ("refused",)), (1, "refuse"), (1, "refused", None), ("refused", 1), (1,), (1, (), "end", 1), (1, None),
                    (True, "refused"), [1, "refused"], (1, "refused", "refused")):
            self.check((row,), False)

    def test_rows(self):
        for row in ((0, (2,), None, 2), (0, (2,), None, True), (0, (2,), None), (0, (2,), None, 1, 1), (0, [2], None, 1),
                    (False, (2,), None, 1), (0, (2,), "most", 1), (0, (2,), "None", 1), (0, (2,), False, 1), (0, 2, None, 1),
                    (0, (1,), None, 1), (0, (2, 1), None, 1), (0, (), None, 1), (4, (2,), None, 1), (-1, (2,), None, 1),
                    ("0", (2,), None, 1), (None, (2,), None, 1), ((0,), (2,), None, 1), (), (0,), None, 0, "row", [], {},
                    [0, (2,), None, 1], (2, (2,), None, 1), (10 ** 39, (2,), None, 1)):
            self.check((row,), False)
            self.check((*ROWS[3], row), False)
        for thing in (None, [], [JOURNAL[0]], list(JOURNAL), JOURNAL[0], 0, "", "journal", {}, True):
            self.check(thing, False)

    def test_open_requests_that_would_need_more_pages_than_there_are(self):
        # Each of the three needs two pages as long as it is open.
        one = asking((1, 1), 3, (1, 1, 1))
        arrivals = ((0, one), (0, one), (0, one))
        rows = {number: tuple((number, (1,), "most" if at == 2 else None, at + 1) for at in range(3)) for number in range(3)}
        for many, right in ((2, 1), (3, 1), (4, 2), (5, 2), (6, 3), (7, 3)):
            for open_ones in range(4):
                journal = tuple(rows[number][0] for number in range(open_ones))
                self.check(journal, open_ones <= right, serving(many), arrivals)
        server = serving(2)
        self.check(rows[0] + rows[1] + rows[2], True, server, arrivals)
        self.check(rows[0] + rows[2][:1], True, server, arrivals)
        self.check(rows[0][:2] + rows[1], False, server, arrivals)
        self.check(rows[0][:2] + rows[1][:1] + rows[0][2:], False, server, arrivals)
        self.check(rows[2] + rows[1] + rows[0][:1], True, server, arrivals)

    def test_a_request_of_one_row_is_never_open(self):
        short = asking((1, 1, 1), 2, (0,))
        arrivals = ((0, short),) * 3
        rows = tuple((number, (), "end", 1) for number in (2, 0, 1))
        for many in range(4):
            self.check(rows[:many], True, serving(2), arrivals)

    def test_any_values(self):
        journal = journal_after(WIDE, MIXED, 99)
        for thing in (*ODD, *spoiled(journal)):
            right = by_hand_journals.is_right_journal(WIDE, MIXED, thing)
            self.assertIs(is_journal(WIDE, MIXED, thing), right, thing)

    def test_any_values_of_drawn_runs(self):
        source = random.Random(102)
        seen = {True: 0, False: 0}
        while sum(seen.values()) < 3000:
            server = drawn.some_server(source)
            arrivals = drawn.some_arrivals(source, server)
            journal = by_hand_journals.journal(server, arrivals)
            things = [*spoiled(journal), *[tuple(source.sample(journal, many)) for many in range(len(journal))]]
            for thing in source.sample(things, min(len(things), 50)):
                right = by_hand_journals.is_right_journal(server, arrivals, thing)
                seen[right] += 1
                self.assertIs(is_journal(server, arrivals, thing), right, thing)
        self.assertGreater(min(seen.values()), 40)


class GoingOn(Case):

    def test_that_of_the_document(self):
        self.same(gone_on(SERVER, ARRIVALS, JOURNAL[:1], 5), (5, (2, (None, None), ((0, ()),)), ((0, (2,), 1, 1),), ()))

    def test_from_nothing(self):
        for step in (0, 5, 10 ** 39):
            self.same(gone_on(WIDE, MIXED, (), step), (step, (2, (None,) * 12, ()), (), ()))
        self.same(gone_on(WIDE, MIXED, (), 0), begun(WIDE, MIXED))
        self.same(gone_on(step=0, journal=(), arrivals=(), server=SERVER), begun(SERVER, ()))

    def test_outcomes_and_active_ones_in_the_order_of_the_numbers(self):
        journal = (ROWS[3][0], ROWS[2][0], ROWS[1][0], ROWS[0][0])
        self.same(gone_on(WIDE, MIXED, journal, 1), (
            1, (2, (None,) * 12, ((0, ()), (3, ()))), ((0, (2,), 1, 1), (3, (1, 1, 2), 5, 1)),
            ((1, ("refused",)), (2, ((), "end")))))

    def test_all_rows(self):
        journal = journal_after(WIDE, MIXED, 99)
        self.same(gone_on(WIDE, MIXED, journal, 7), (7, (2, (None,) * 12, ()), (), ended(WIDE, MIXED)[1]))

    def test_requests_that_are_cut_before_their_first_row_are_admitted_again(self):
        standing = gone_on(WIDE, MIXED, ROWS[3][:1], 1)
        self.same([row[0] for row in standing[2]], [3])
        after = stepped_once(WIDE, MIXED, standing)
        self.same([row[0] for row in after[2]], [3, 0, 2])
        self.same(after[3], ((1, ("refused",)),))
        # Before their step is reached they are not.
        self.same([row[0] for row in stepped_once(WIDE, MIXED, gone_on(WIDE, MIXED, ROWS[3][:1], 0))[2]], [3, 0])

    def test_as_by_hand(self):
        source = random.Random(103)
        for _ in range(150):
            server = drawn.some_server(source)
            arrivals = drawn.some_arrivals(source, server)
            journal = by_hand_journals.journal(server, arrivals)
            for _ in range(4):
                rows = journal[:source.randint(0, len(journal))]
                step = source.randint(0, 40)
                standing = gone_on(server, arrivals, rows, step)
                self.same(standing, by_hand_journals.gone_on(server, arrivals, rows, step))
                self.assertIs(is_standing(server, arrivals, standing), True)
                self.same(run_from(server, arrivals, standing), ended(server, arrivals)[1])

    def test_steps(self):
        for step in (None, -1, True, False, "5", (5,), [5], {}, -(10 ** 39)):
            self.fails(BadNumber, step, gone_on, SERVER, ARRIVALS, JOURNAL, step)
            self.fails(BadNumber, step, journal_after, SERVER, ARRIVALS, step)


class Shown(Case):

    def test_that_of_the_document(self):
        self.same(shown(SERVER, ARRIVALS, JOURNAL[:1]), ("b",))

    def test_texts_and_tokens(self):
        journal = journal_after(WIDE, MIXED, 99)
        bare = serving(12, vocabulary=None)
        self.same(shown(WIDE, MIXED, journal), ("ba", "", "", "aab"))
        self.same(shown(bare, MIXED, journal), ((2, 1), (), (), (1, 1, 2)))
        self.same([shown(WIDE, MIXED, journal[:many])[0] for many in range(7)], ["", "", "b", "b", "b", "ba", "ba"])
        self.same(shown(journal=(), arrivals=(), server=WIDE), ())
        self.same(shown(bare, MIXED, ()), ((), (), (), ()))

    def test_pieces_of_several_letters(self):
        model = ("window", 4, 0, (), (1, 1, 1, 1))
        server = (model, ("vocabulary", "ab", ((1, 2),)), 4, 2, 2, (("go",),))
        arrivals = ((0, asking((1,), 3, (3, 2, 3))),)
        self.same([shown(server, arrivals, journal_after(server, arrivals, steps))[0] for steps in (1, 2, 4, 9)],
                  ["", "ab", "abb", "abbab"])

    def test_no_tokens_settled_since_the_end_came_at_once(self):
        arrivals = ((0, asking((1,), 3)),)
        self.same(journal_after(SERVER, arrivals, 9), ((0, (), "end", 1),))
        self.same(shown(SERVER, arrivals, ((0, (), "end", 1),)), ("",))
        self.same(shown(serving(2, vocabulary=None), arrivals, ((0, (), "end", 1),)), ((),))

    def test_as_by_hand(self):
        source = random.Random(104)
        for _ in range(150):
            server = drawn.some_server(source)
            arrivals = drawn.some_arrivals(source, server)
            journal = by_hand_journals.journal(server, arrivals)
            rows = journal[:source.randint(0, len(journal))]
            self.same(shown(server, arrivals, rows), by_hand_journals.shown(server, arrivals, rows))


class Cuts(Case):

    def test_cut_anywhere_it_ends_with_the_same_outcomes(self):
        for server in (WIDE, serving(3, 2, 1, (("lose", "wait"), ("go", "go", "lose"))), serving(2)):
            right = ended(server, MIXED)[1]
            journal = journal_after(server, MIXED, 99)
            for many in range(len(journal) + 1):
                for step in (0, 1, 3, 30):
                    self.same(run_from(server, MIXED, gone_on(server, MIXED, journal[:many], step)), right)

    def test_cut_again_and_again_with_other_tables(self):
        source = random.Random(105)
        for _ in range(100):
            server = drawn.some_server(source)
            arrivals = drawn.some_arrivals(source, server)
            right = ended(server, arrivals)[1]
            before = shown(server, arrivals, ())
            journal, standing = (), begun(server, arrivals)
            while len(standing[3]) < len(arrivals):
                now = (*server[:5], drawn.some_table(source))
                for _ in range(source.randint(0, 20)):
                    after = stepped_once(now, arrivals, standing)
                    journal += rows_since(now, arrivals, standing, after)
                    standing = after
                    self.assertIs(is_journal(now, arrivals, journal), True)
                # Of the rows those remain that were shown, and perhaps some more.
                self.check_shown(server, arrivals, before, journal)
                rest = journal[:source.randint(self.least(server, arrivals, before, journal), len(journal))]
                before, journal = shown(server, arrivals, rest), rest
                standing = gone_on(now, arrivals, rest, source.choice((standing[0], source.randint(0, 30))))
            self.same(standing[3], right)
            self.check_answers(server, shown(server, arrivals, journal), right)

    def least(self, server, arrivals, before, journal):
        """Return how many rows must remain so that all that was shown is in them."""
        return min(many for many in range(len(journal) + 1) if shown(server, arrivals, journal[:many]) == before
                   or all(text[:len(old)] == old for text, old in zip(shown(server, arrivals, journal[:many]), before)))

    def check_shown(self, server, arrivals, before, journal):
        """Check that row by row nothing that was shown is taken back, and each row appends just its own tokens."""
        self.same([text[:len(old)] for text, old in zip(shown(server, arrivals, journal), before)], list(before))
        for many in range(len(journal)):
            one, other = shown(server, arrivals, journal[:many]), shown(server, arrivals, journal[:many + 1])
            for number, row in ((number, journal[many]) for number in range(len(arrivals))):
                more = row[1] if row[0] == number and row[1] != "refused" else ()
                self.same(other[number], one[number] + (more if server[1] is None else to_text(server[1], more)))

    def check_answers(self, server, texts, outcomes):
        for number, outcome in outcomes:
            answer = () if outcome == ("refused",) else outcome[0]
            self.same(texts[number], answer if server[1] is None else to_text(server[1], answer))


class Errors(Case):

    def test_the_server_comes_first(self):
        for server in (*ODD, list(SERVER), SERVER[:5], (*SERVER[:4], True, SERVER[5])):
            self.fails(BadServer, server, journal_after, server, None, None)
            self.fails(BadServer, server, is_journal, server, None, None)
            self.fails(BadServer, server, gone_on, server, None, None, None)
            self.fails(BadServer, server, shown, server, None, None)

    def test_then_the_arrivals(self):
        for arrivals in (None, [], [(0, ASK)], ((-1, ASK),), ((True, ASK),), ((1, ASK), (0, ASK)), (ASK,), 0, {},
                         ((0, (*FULL[:2], 8, *FULL[3:])),)):
            self.fails(BadArrivals, arrivals, journal_after, SERVER, arrivals, None)
            self.fails(BadArrivals, arrivals, is_journal, SERVER, arrivals, ())
            self.fails(BadArrivals, arrivals, gone_on, SERVER, arrivals, None, None)
            self.fails(BadArrivals, arrivals, shown, SERVER, arrivals, None)

    def test_then_the_journal(self):
        for journal in ODD:
            if journal != ():
                self.fails(BadJournal, journal, gone_on, SERVER, ARRIVALS, journal, None)
                self.fails(BadJournal, journal, shown, SERVER, ARRIVALS, journal)

    def test_beyond_the_limits(self):
        arrivals = tuple((step, asking((1, 2) * 6, 20, (1,) * 12 + (0,))) for step in range(0, 48, 6))
        server = serving(40, 9, 9, (("go", "wait", "lose", "go", "go", "wait"),) * 7)
        journal = journal_after(server, arrivals, 1000)
        self.same(len(journal), 8 * 13)
        self.same(shown(server, arrivals, journal), ("a" * 12,) * 8)
        self.same(run_from(server, arrivals, gone_on(server, arrivals, journal[:50], 500)), ended(server, arrivals)[1])


if __name__ == "__main__":
    unittest.main()
