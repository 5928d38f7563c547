"""Models, settings, requests and servers that a seeded source draws, all within the limits of the document."""

import by_hand
from draftward.grammars import is_request
from draftward.models import rows_of

VOCABULARIES = {2: ("vocabulary", "a", ()), 3: ("vocabulary", "ba", ()), 4: ("vocabulary", "ab", ((1, 2),))}


def some_weights(source, size, greatest=4):
    weights = tuple(source.randint(0, greatest) for _ in range(size))
    return weights if sum(weights) else (1,) * size


def some_window(source, size):
    k = source.randint(0, 2)
    entries = {}
    for _ in range(source.randint(0, 6)):
        last = tuple(source.randrange(size) for _ in range(source.randint(0, k)))
        entries[last] = some_weights(source, size)
    return ("window", size, k, tuple(sorted(entries.items())), some_weights(source, size))


def some_network(source, size):
    width = source.randint(1, 2)

    def vectors(many):
        return tuple(tuple(source.randint(-2, 2) for _ in range(width)) for _ in range(many))

    layers = tuple(tuple(vectors(width) for _ in range(4)) for _ in range(source.randint(0, 1)))
    return ("net", size, width, vectors(size), vectors(source.randint(1, 3)), layers, vectors(size))


def some_model(source, size):
    return some_network(source, size) if source.random() < 0.3 else some_window(source, size)


def some_step(source, size):
    b = source.randint(1, 6)
    return source.choice((
        ("power", source.randint(1, 3)), ("greatest", source.randint(1, size + 1)), ("share", source.randint(1, b), b),
        ("ban", tuple(sorted(source.sample(range(size), source.randint(0, size))))),
        ("seen", source.randint(1, 4), source.randint(1, 4)), ("least", source.randint(0, 4))))


def some_settings(source, size):
    return tuple(some_step(source, size) for _ in range(source.randint(0, 2)))


def some_prompt(source, size, longest=4):
    return tuple(source.randint(1, size - 1) for _ in range(source.randint(1, longest)))


def some_tape(source, longest=14):
    return tuple(source.randrange(10 ** source.randint(1, 6)) for _ in range(source.randint(0, longest)))


def some_drafting(source, size):
    plan = tuple((source.choice(("row", "several")), source.randint(1, 3)) for _ in range(source.randint(1, 3)))
    return (some_model(source, size), some_settings(source, size), plan)


def some_grammar(source):
    states = source.randint(1, 3)
    moves = [(state, letter, source.randrange(states)) for state in range(states) for letter in "ab"]
    finals = sorted(source.sample(range(states), source.randint(1, states)))
    kept = tuple(move for move in moves if source.random() < 0.8)
    return ("grammar", states, source.randrange(states), tuple(finals), kept)


def some_request(source, model, vocabulary):
    """Return a request that fits."""
    size = model[1]
    while True:
        drafting = some_drafting(source, size) if source.random() < 0.6 else None
        grammar = some_grammar(source) if vocabulary is not None and source.random() < 0.5 else None
        request = ("request", some_prompt(source, size), source.randint(1, 4), some_settings(source, size), drafting,
                   grammar, some_tape(source))
        if is_request(model, vocabulary, request):
            return request


def some_table(source):
    return tuple(tuple(source.choice(("go", "go", "wait", "lose")) for _ in range(source.randint(1, 4)))
                 for _ in range(source.randint(1, 4)))


def some_server(source):
    size = source.choice(list(VOCABULARIES))
    vocabulary = source.choice((None, VOCABULARIES[size]))
    return (some_model(source, size), vocabulary, source.randint(2, 8), source.randint(1, 3), source.randint(1, 4),
            some_table(source))


def some_arrivals(source, server):
    steps = sorted(source.randint(0, 6) for _ in range(source.randint(0, 4)))
    return tuple((step, some_request(source, server[0], server[1])) for step in steps)


def some_standing(source, server, arrivals):
    """Return a standing, most often one that no run from the beginning comes to."""
    model, vocabulary, many, places, _, _ = server
    pool = by_hand.Pool((places, (None,) * many, ()))
    free, active, done = many, [], []
    for number in source.sample(range(len(arrivals)), len(arrivals)):
        request = arrivals[number][1]
        needed = by_hand.need(server, request)
        if source.random() < 0.3 or needed > many:
            if source.random() < 0.7:
                done.append((number, by_hand.outcome_of(server, request)))
        elif needed <= free:
            free -= needed
            before, _ = by_hand.course(model, vocabulary, request)
            rounds = source.randrange(len(before))
            active.append((number, *before[rounds], rounds))
            fill(source, model, pool, number, request[1] + before[rounds][0])
    return (source.randint(0, 40), pool.value(), tuple(active), tuple(sorted(done)))


def fill(source, model, pool, number, tokens):
    """Let the request keep a beginning of its tokens, perhaps with pages that it shares, also ones that are not full."""
    rows = rows_of(model, tokens)
    pool.lists[number] = []
    for other in source.sample(list(pool.lists), len(pool.lists)):
        mine = [token for token, _ in pool.kept(other)]
        if mine == list(tokens[:len(mine)]) and source.random() < 0.7:
            pool.copy(other, number)
            break
    for at in range(len(pool.kept(number)), source.randint(0, len(tokens))):
        assert pool.add(number, tokens[at], rows[at])
