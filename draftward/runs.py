"""Runs of a server: its requests, what their rounds alone give, and the steps that it does."""

from draftward.grammars import rounds_for
from draftward.models import next_row
from draftward.pools import pairs_of, with_added, with_joined, with_list, without_list
from draftward.rounds import TapeReader, played_out


class Asked:
    """A request that arrives at a step, with the number of pages that it needs."""

    def __init__(self, server, step, request):
        model, vocabulary, many, places, _, _ = server
        self.step = step
        self.prompt = request[1]
        self.tape = request[6]
        self.needed = pages_needed(request, places)
        self.refused = self.needed > many
        self.rounds = rounds_for(model, vocabulary, request)
        self.course = None

    def before_rounds(self):
        """Return the list of the pairs (answer, used) that stand before each of its rounds, alone."""
        return self._played()[0]

    def outcome(self):
        """Return the outcome that the request has on every server with so many pages."""
        return ("refused",) if self.refused else self._played()[1]

    def journal_rows(self):
        """Return the list of what stands behind its number in each of its rows of a journal."""
        if self.refused:
            return [("refused",)]
        before, (answer, reason), used = self._played()
        after = [*before[1:], (answer, used)]
        reasons = [None] * (len(before) - 1) + [reason]
        rows = []
        for (begin, _), (end, used_then), reason_then in zip(before, after, reasons):
            rows.append((end[len(begin):], reason_then, used_then))
        return rows

    def _played(self):
        if self.course is None:
            self.course = played_out(self.rounds, self.tape)
        return self.course


class Run:
    """A standing of a server that goes on by steps."""

    def __init__(self, server, asked, standing):
        self.server = server
        self.asked = asked
        self.step, self.pool, active, outcomes = standing
        self.active = list(active)
        self.outcomes = dict(outcomes)
        # What happened in the last step, in order: tuples as in a trace, those of rounds with what is used then.
        self.events = []

    def standing(self):
        """Return the standing that is reached."""
        return (self.step, self.pool, tuple(self.active), self.outcomes_so_far())

    def outcomes_so_far(self):
        """Return the pairs of the numbers and the outcomes that are there, in ascending order."""
        return tuple(sorted(self.outcomes.items()))

    def is_over(self):
        """Tell whether all requests have outcomes."""
        return len(self.outcomes) == len(self.asked)

    def go_on(self):
        """Do one step, and return the list of what happens in it."""
        self.events = []
        self.admit()
        still = []
        # The positions are those at the beginning: a request that ends moves no other one to another word.
        for at, row in enumerate(self.active):
            after = self._served(row, self.word_at(at))
            if after is not None:
                still.append(after)
        self.active = still
        self.step += 1
        return self.events

    def admit(self):
        """Do what a step begins with: refuse and admit requests in their turn."""
        _, _, many, _, _, _ = self.server
        active = [row[0] for row in self.active]
        free = many - sum([self.asked[number].needed for number in active])
        for number, asked in enumerate(self.asked):
            if asked.step > self.step or number in active or number in self.outcomes:
                continue
            if asked.refused:
                self.outcomes[number] = ("refused",)
                self.events.append(("refused", number))
            elif asked.needed <= free:
                free -= asked.needed
                self.active.append((number, (), 0, 0))
                self.pool = with_joined(self.pool, number, asked.prompt)
                self.events.append(("admitted", number, len(pairs_of(self.pool, number))))
            else:
                return

    def word_at(self, at):
        """Return the word for the active request at the position."""
        # The first one always goes on, so that every run comes to an end.
        if at == 0:
            return "go"
        table = self.server[5]
        words = table[self.step % len(table)]
        return words[at % len(words)]

    def _served(self, row, word):
        """Do what the word says for the active request: return it as it is then, or None if it ended."""
        number, answer, _, _ = row
        if word == "wait":
            self.events.append(("waits", number))
            return row
        if word == "lose":
            self.pool = with_list(self.pool, number, ())
            self.events.append(("loses", number))
            return row
        tokens = self.asked[number].prompt + answer
        if len(pairs_of(self.pool, number)) < len(tokens):
            self._work(number, tokens)
            return row
        return self._round(row)

    def _work(self, number, tokens):
        """Work out the next rows of the tokens that the request does not keep, as many as the chunk allows."""
        model, _, _, _, chunk, _ = self.server
        rows = [row for _, row in pairs_of(self.pool, number)]
        lacking = tokens[len(rows):len(rows) + chunk]
        for token in lacking:
            row, _ = next_row(model, rows, token)
            rows.append(row)
            self.pool = with_added(self.pool, number, (token, row))
        self.events.append(("works", number, lacking))

    def _round(self, row):
        number, answer, used, many = row
        asked = self.asked[number]
        reader = TapeReader(asked.tape, used)
        settled, reason = asked.rounds.play(answer, many, reader)
        self.events.append(("round", number, settled, reason, reader.used))
        answer = answer + settled
        if reason is None:
            return (number, answer, reader.used, many + 1)
        self.outcomes[number] = (answer, reason)
        self.pool = without_list(self.pool, number)
        return None


def pages_needed(request, places):
    """Return how many pages the request may need, each with so many places."""
    positions = len(request[1]) + request[2] - 1
    return (positions + places - 1) // places
