"""Servers: requests arrive, are admitted in their turn, and are worked on step by step."""

from draftward.errors import BadArrivals, BadRequest, BadServer, BadStanding
from draftward.grammars import is_fitting_request
from draftward.kinds import is_ascending, is_integer_from, is_number_below, is_tuple_of, same
from draftward.models import is_model
from draftward.pools import has_true_rows, is_pool_of, pairs_of
from draftward.runs import Asked, Run, pages_needed
from draftward.tokens import is_vocabulary, size

WORDS = ("go", "wait", "lose")


def is_server(thing):
    """Tell whether any value is a server."""
    if not is_tuple_of(thing, 6):
        return False
    model, vocabulary, many, places, chunk, table = thing
    if not is_model(model):
        return False
    if vocabulary is not None and not (is_vocabulary(vocabulary) and size(vocabulary) == model[1]):
        return False
    if not all(is_integer_from(number, 1) for number in (many, places, chunk)):
        return False
    return isinstance(table, tuple) and table != () and all(_is_row_of_words(row) for row in table)


def are_arrivals(server, thing):
    """Tell whether any value are arrivals of the server."""
    _need_server(server)
    return _are_arrivals_of(server, thing)


def begun(server, arrivals):
    """Return the standing at the beginning."""
    _need_server_and_arrivals(server, arrivals)
    return _standing_at_first(server)


def need(server, request):
    """Return how many pages the request may need."""
    need_request(server, request)
    return pages_needed(request, server[3])


def stepped_once(server, arrivals, standing):
    """Return the standing after a step."""
    run = run_from(server, arrivals, standing)
    run.go_on()
    return run.standing()


def is_standing(server, arrivals, thing):
    """Tell whether any value is a standing of the server with the arrivals."""
    return _is_standing_of(server, all_asked(server, arrivals), thing)


def ended(server, arrivals):
    """Return how many steps there are until all arrivals have outcomes, and the outcomes."""
    run = new_run(server, arrivals)
    while not run.is_over():
        run.go_on()
    return (run.step, run.outcomes_so_far())


def all_asked(server, arrivals):
    """Return what is asked of the server by each arrival, or raise the error of the first value that is wrong."""
    _need_server_and_arrivals(server, arrivals)
    return [Asked(server, step, request) for step, request in arrivals]


def new_run(server, arrivals):
    """Return the run from the beginning, or raise the error of the first value that is wrong."""
    return Run(server, all_asked(server, arrivals), _standing_at_first(server))


def run_from(server, arrivals, standing):
    """Return the run that goes on from the standing, or raise the error of the first value that is wrong."""
    asked = all_asked(server, arrivals)
    if not _is_standing_of(server, asked, standing):
        raise BadStanding(standing)
    return Run(server, asked, standing)


def need_request(server, request):
    """Raise BadServer or BadRequest if the values are not a server and a request of it."""
    _need_server(server)
    if not is_fitting_request(server[0], server[1], request):
        raise BadRequest(request)


def _standing_at_first(server):
    _, _, many, places, _, _ = server
    return (0, (places, (None,) * many, ()), (), ())


def _need_server(server):
    if not is_server(server):
        raise BadServer(server)


def _need_server_and_arrivals(server, arrivals):
    _need_server(server)
    if not _are_arrivals_of(server, arrivals):
        raise BadArrivals(arrivals)


def _is_row_of_words(thing):
    return isinstance(thing, tuple) and thing != () and all(word in WORDS for word in thing)


def _are_arrivals_of(server, thing):
    if not isinstance(thing, tuple) or not all(_is_arrival(server, item) for item in thing):
        return False
    steps = [step for step, _ in thing]
    return steps == sorted(steps)


def _is_arrival(server, thing):
    if not is_tuple_of(thing, 2) or not is_integer_from(thing[0], 0):
        return False
    return is_fitting_request(server[0], server[1], thing[1])


def _is_standing_of(server, asked, thing):
    """Tell whether thing is a standing of the server, which is known to be right, with what is asked of it."""
    if not is_tuple_of(thing, 4):
        return False
    step, pool, active, outcomes = thing
    if not is_integer_from(step, 0) or not _are_active(asked, active) or not _are_outcomes(asked, outcomes):
        return False
    numbers = [row[0] for row in active]
    all_numbers = numbers + [number for number, _ in outcomes]
    if len(set(all_numbers)) < len(all_numbers):
        return False
    if sum([asked[number].needed for number in numbers]) > server[2]:
        return False
    return _is_pool_of_server(server, pool) and _keeps_beginnings(asked, pool, active)


def _are_active(asked, thing):
    return isinstance(thing, tuple) and all(_is_active(asked, row) for row in thing)


def _is_active(asked, thing):
    if not is_tuple_of(thing, 4) or not is_number_below(thing[0], len(asked)):
        return False
    number, answer, used, rounds = thing
    if asked[number].refused:
        return False
    before = asked[number].before_rounds()
    return is_number_below(rounds, len(before)) and same(before[rounds], (answer, used))


def _are_outcomes(asked, thing):
    if not isinstance(thing, tuple) or not all(_is_outcome_of(asked, pair) for pair in thing):
        return False
    return is_ascending([number for number, _ in thing])


def _is_outcome_of(asked, thing):
    if not is_tuple_of(thing, 2) or not is_number_below(thing[0], len(asked)):
        return False
    return same(asked[thing[0]].outcome(), thing[1])


def _is_pool_of_server(server, thing):
    """Tell whether thing is a true pool with the server's numbers of pages and of places."""
    model, _, many, places, _, _ = server
    if not is_pool_of(model, thing) or thing[0] != places or len(thing[1]) != many:
        return False
    return has_true_rows(model, thing)


def _keeps_beginnings(asked, pool, active):
    """Tell whether the lists are those of the active requests, and each keeps a beginning of its tokens."""
    if [number for number, _ in pool[2]] != sorted([row[0] for row in active]):
        return False
    for number, answer, _, _ in active:
        tokens = asked[number].prompt + answer
        held = tuple([token for token, _ in pairs_of(pool, number)])
        if held != tokens[:len(held)]:
            return False
    return True
