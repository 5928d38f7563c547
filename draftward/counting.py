"""Counting: with how many of all tapes of a length outcomes come, in the place of their chances."""

from draftward.drafts import asked_rounds
from draftward.errors import BadLengths
from draftward.kinds import is_integer_from, is_tuple_of
from draftward.needs import need_number
from draftward.rounds import played_out
from draftward.servers import all_asked
from draftward.settings import power
from draftward.ways import AllRuns


def period(model, settings, drafting, prompt, most):
    """Return the least common multiple of all numbers below which draws can be made."""
    return AllRuns(asked_rounds(model, settings, drafting, prompt, most)).whole


def reach(model, settings, drafting, prompt, most):
    """Return the greatest number of draws of a run."""
    return AllRuns(asked_rounds(model, settings, drafting, prompt, most)).most_draws()


def counted(model, settings, drafting, prompt, most, base, length):
    """Return the pairs of all outcomes that come and the numbers of tapes with which they do, in ascending order."""
    rounds = asked_rounds(model, settings, drafting, prompt, most)
    need_number(base, 1)
    need_number(length, 0)
    return tuple(sorted(_counts_by(rounds, base, length).items()))


def counted_server(server, arrivals, base, lengths):
    """Return the pairs of all tuples of outcomes that come and the numbers of rows of tapes with which they do."""
    asked = all_asked(server, arrivals)
    need_number(base, 1)
    if not is_tuple_of(lengths, len(asked)) or not all(is_integer_from(length, 0) for length in lengths):
        raise BadLengths(lengths)
    found = {(): 1}
    # Each outcome hangs on the own tape of its request alone, so the numbers of tapes are multiplied.
    for one, length in zip(asked, lengths):
        found = _with_next(found, _counts_of(one, base, length))
    return tuple(sorted(found.items()))


def _with_next(found, counts):
    """Return the numbers for the tuples of outcomes with one more outcome, which comes in so many ways."""
    longer = {}
    for outcomes, many in found.items():
        for outcome, times_more in counts.items():
            more_outcomes = (*outcomes, outcome)
            longer[more_outcomes] = many * times_more
    return longer


def _counts_of(one, base, length):
    """Return for each outcome of what is asked with how many tapes it comes."""
    if one.refused:
        return {one.outcome(): power(base, length)}
    return _counts_by(one.rounds, base, length)


def _counts_by(rounds, base, length):
    """Return for each outcome of the rounds with how many tapes it comes."""
    counts = {}
    tape = ()
    while tape is not None:
        _, outcome, used = played_out(rounds, tape)
        # What is not read of a tape can be anything, so each run stands for all tapes that begin like its own.
        read = min(used, length)
        counts[outcome] = counts.get(outcome, 0) + power(base, length - read)
        tape = _next_tape(tape + (0,) * (read - len(tape)), base)
    return counts


def _next_tape(tape, base):
    """Return the tape with its last integer that can grow one greater, and without those behind it, or None."""
    for at in reversed(range(len(tape))):
        if tape[at] + 1 < base:
            return (*tape[:at], tape[at] + 1)
    return None
