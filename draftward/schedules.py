"""Schedules: how long requests may take, how long they wait, and how much is worked out."""

from draftward.errors import BadRequest, Refused
from draftward.kinds import is_integer
from draftward.runs import pages_needed
from draftward.servers import all_asked, need_request, new_run, run_from


def bound_of(server, request):
    """Return after how many steps, in which it goes on, the request has an outcome at the latest."""
    need_request(server, request)
    if pages_needed(request, server[3]) > server[2]:
        raise Refused(request)
    return _most_steps(server, request)


def bound(server, arrivals):
    """Return after how many steps all arrivals have outcomes at the latest, whatever the table says."""
    asked = all_asked(server, arrivals)
    found = 1
    for one, (step, request) in zip(asked, arrivals):
        if not one.refused:
            found += _most_steps(server, request)
    return found + max([step for step, _ in arrivals], default=0)


def work(server, arrivals):
    """Return how many rows are worked out and added until all arrivals have outcomes."""
    run = new_run(server, arrivals)
    rows = 0
    while not run.is_over():
        rows += sum([len(event[2]) for event in run.go_on() if event[0] == "works"])
    return rows


def ages(server, arrivals, standing):
    """Return for each active request the pair of its number and of how many active ones are before it."""
    run = run_from(server, arrivals, standing)
    return tuple([(row[0], age) for age, row in enumerate(run.active)])


def judge_word(server, arrivals, standing, number):
    """Return the word of an active request in the next step."""
    run = run_from(server, arrivals, standing)
    run.admit()
    active = [row[0] for row in run.active]
    if not is_integer(number) or number not in active:
        raise BadRequest(number)
    return run.word_at(active.index(number))


def _most_steps(server, request):
    _, prompt, most, _, _, _, _ = request
    chunk = server[4]
    return (len(prompt) + most + chunk - 1) // chunk + 2 * most
