"""The journal of a run, and how a server goes on with what remains of it after a cut."""

from draftward.errors import BadJournal
from draftward.kinds import is_number_below, same
from draftward.needs import need_number
from draftward.servers import all_asked, new_run
from draftward.tokens import to_text


def journal_after(server, arrivals, steps):
    """Return the journal after so many steps from the beginning."""
    run = new_run(server, arrivals)
    need_number(steps, 0)
    journal = []
    while run.step < steps and not run.is_over():
        for word, *row in run.go_on():
            if word == "refused":
                journal.append((*row, word))
            elif word == "round":
                journal.append(tuple(row))
    return tuple(journal)


def is_journal(server, arrivals, thing):
    """Tell whether any value is a beginning of a journal."""
    return _rows_read(server, all_asked(server, arrivals), thing) is not None


def gone_on(server, arrivals, journal, step):
    """Return the standing, with this number of steps, with which the server goes on after the journal."""
    asked = all_asked(server, arrivals)
    read = _need_journal(server, asked, journal)
    need_number(step, 0)
    _, _, many, places, _, _ = server
    active = []
    outcomes = []
    for number, one in enumerate(asked):
        if _has_ended(one, read[number]):
            outcomes.append((number, one.outcome()))
        elif read[number] > 0:
            answer, used = one.before_rounds()[read[number]]
            active.append((number, answer, used, read[number]))
    lists = [(number, ()) for number, _, _, _ in active]
    return (step, (places, (None,) * many, tuple(lists)), tuple(active), tuple(outcomes))


def shown(server, arrivals, journal):
    """Return for each arrival the text of its settled tokens, or these tokens if there is no vocabulary."""
    asked = all_asked(server, arrivals)
    read = _need_journal(server, asked, journal)
    vocabulary = server[1]
    answers = [_settled(one, many) for one, many in zip(asked, read)]
    if vocabulary is None:
        return tuple(answers)
    return tuple([to_text(vocabulary, answer) for answer in answers])


def _need_journal(server, asked, journal):
    """Return how many rows of the journal each request has, or raise BadJournal."""
    read = _rows_read(server, asked, journal)
    if read is None:
        raise BadJournal(journal)
    return read


def _rows_read(server, asked, thing):
    """Return the list of how many rows each request has in thing, or None if it is no beginning of a journal."""
    if not isinstance(thing, tuple):
        return None
    read = [0] * len(asked)
    for row in thing:
        if not _is_next_row(asked, read, row):
            return None
        read[row[0]] += 1
        if sum(_pages_held(asked, read)) > server[2]:
            return None
    return read


def _is_next_row(asked, read, row):
    """Tell whether row is the next row of its request, of which so many rows were read."""
    if not isinstance(row, tuple) or row == () or not is_number_below(row[0], len(asked)):
        return False
    number = row[0]
    if _has_ended(asked[number], read[number]):
        return False
    return same((number, *asked[number].journal_rows()[read[number]]), row)


def _pages_held(asked, read):
    """Return the list of the needs of the requests that have rows, but neither a reason nor a refusal."""
    return [one.needed for one, many in zip(asked, read) if many > 0 and not _has_ended(one, many)]


def _has_ended(one, many):
    """Tell whether so many rows are all rows that the request ever has."""
    return many == len(one.journal_rows())


def _settled(one, many):
    """Return the tokens that the request settled in so many rows."""
    if one.refused:
        return ()
    return tuple([token for settled, _, _ in one.journal_rows()[:many] for token in settled])
