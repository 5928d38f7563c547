"""Models, settings, requests and servers that a seeded source draws, all within the limits of the document."""

from draftward.grammars import is_request

VOCABULARIES = {2: ("vocabulary", "a", ()), 3: ("vocabulary", "ba", ()), 4: ("vocabulary", "ab", ((1, 2),))}


def some_weights(source, size, greatest=4):
    weights = tuple(source.randint(0, greatest) for _ in range(size))
    return weights if sum(weights) else (1,) * size


def some_window(source, size):
    k = source.randint(0, 2)
    entries = {}
    for _ in range(source.randint(0, 6)):
        last = tuple(source.randrange(size) for _ in range(source.randint(0, k)))
        entries[last] = some_weights(source, size)
    return ("window", size, k, tuple(sorted(entries.items())), some_weights(source, size))


def some_network(source, size):
    width = source.randint(1, 2)

    def vectors(many):
        return tuple(tuple(source.randint(-2, 2) for _ in range(width)) for _ in range(many))

    layers = tuple(tuple(vectors(width) for _ in range(4)) for _ in range(source.randint(0, 1)))
    return ("net", size, width, vectors(size), vectors(source.randint(1, 3)), layers, vectors(size))


def some_model(source, size):
    return some_network(source, size) if source.random() < 0.3 else some_window(source, size)


def some_step(source, size):
    b = source.randint(1, 6)
    return source.choice((
        ("power", source.randint(1, 3)), ("greatest", source.randint(1, size + 1)), ("share", source.randint(1, b), b),
        ("ban", tuple(sorted(source.sample(range(size), source.randint(0, size))))),
        ("seen", source.randint(1, 4), source.randint(1, 4)), ("least", source.randint(0, 4))))


def some_settings(source, size):
    return tuple(some_step(source, size) for _ in range(source.randint(0, 2)))


def some_prompt(source, size, longest=4):
    return tuple(source.randint(1, size - 1) for _ in range(source.randint(1, longest)))


def some_tape(source, longest=14):
    return tuple(source.randrange(10 ** source.randint(1, 6)) for _ in range(source.randint(0, longest)))


def some_drafting(source, size):
    plan = tuple((source.choice(("row", "several")), source.randint(1, 3)) for _ in range(source.randint(1, 2)))
    return (some_model(source, size), some_settings(source, size), plan)


def some_grammar(source):
    states = source.randint(1, 3)
    moves = [(state, letter, source.randrange(states)) for state in range(states) for letter in "ab"]
    finals = sorted(source.sample(range(states), source.randint(1, states)))
    kept = tuple(move for move in moves if source.random() < 0.8)
    return ("grammar", states, source.randrange(states), tuple(finals), kept)


def some_request(source, model, vocabulary):
    """Return a request that fits."""
    size = model[1]
    while True:
        drafting = some_drafting(source, size) if source.random() < 0.6 else None
        grammar = some_grammar(source) if vocabulary is not None and source.random() < 0.5 else None
        request = ("request", some_prompt(source, size), source.randint(1, 4), some_settings(source, size), drafting,
                   grammar, some_tape(source))
        if is_request(model, vocabulary, request):
            return request


def some_table(source):
    return tuple(tuple(source.choice(("go", "go", "wait", "lose")) for _ in range(source.randint(1, 4)))
                 for _ in range(source.randint(1, 4)))


def some_server(source):
    size = source.choice(list(VOCABULARIES))
    vocabulary = source.choice((None, VOCABULARIES[size]))
    return (some_model(source, size), vocabulary, source.randint(2, 8), source.randint(1, 3), source.randint(1, 4),
            some_table(source))


def some_arrivals(source, server):
    steps = sorted(source.randint(0, 6) for _ in range(source.randint(0, 4)))
    return tuple((step, some_request(source, server[0], server[1])) for step in steps)
