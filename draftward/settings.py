"""Settings: which steps there are, and what they make of the weights of a model."""

from draftward.kinds import are_tokens, is_ascending, is_integer_from, is_tuple_of


def are_steps(thing, many):
    """Tell whether thing are settings for a model of so many tokens."""
    return isinstance(thing, tuple) and all(_is_step(step, many) for step in thing)


def applied(settings, weights, tokens, answered):
    """Return what the steps make of the weights after the tokens, the last ones of which, so many, are the answer."""
    for step in settings:
        weights = _applied_step(step, weights, tokens, answered)
        # Some token must always come; if the steps leave none, the answer ends.
        if sum(weights) == 0:
            weights = (1,) + weights[1:]
    return weights


def power(number, e):
    """Return the product of so many factors number."""
    found = 1
    while e > 0:
        if e % 2 == 1:
            found *= number
        number *= number
        e //= 2
    return found


def _is_step(thing, many):
    if is_tuple_of(thing, 3):
        return _is_step_of_two(thing)
    if not is_tuple_of(thing, 2):
        return False
    word, what = thing
    if word == "ban":
        return are_tokens(what, many) and is_ascending(what)
    if word == "least":
        return is_integer_from(what, 0)
    return word in ("power", "greatest") and is_integer_from(what, 1)


def _is_step_of_two(thing):
    """Tell whether the triple thing is a step with two numbers."""
    word, one, other = thing
    if not (is_integer_from(one, 1) and is_integer_from(other, 1)):
        return False
    return word == "seen" or (word == "share" and one <= other)


def _applied_step(step, weights, tokens, answered):
    word = step[0]
    if word == "power":
        return tuple([power(weight, step[1]) for weight in weights])
    if word == "greatest":
        return _only(weights, _from_the_greatest(weights)[:step[1]])
    if word == "share":
        return _only(weights, _sharing(weights, step[1], step[2]))
    if word == "ban":
        return _without(weights, step[1])
    if word == "seen":
        return tuple([weight * step[1 if token in tokens else 2] for token, weight in enumerate(weights)])
    return _without(weights, (0,)) if answered < step[1] else weights


def _from_the_greatest(weights):
    """Return the tokens from that with the greatest weight on, of equal ones the lesser tokens first."""
    return [token for _, token in sorted([(-weight, token) for token, weight in enumerate(weights)])]


def _sharing(weights, a, b):
    """Return the tokens from the greatest on, just so many that their sum times b is at least a times the whole."""
    whole = sum(weights)
    taken = []
    so_far = 0
    for token in _from_the_greatest(weights):
        if so_far * b >= a * whole:
            break
        taken.append(token)
        so_far += weights[token]
    return taken


def _only(weights, tokens):
    return tuple([weight if token in tokens else 0 for token, weight in enumerate(weights)])


def _without(weights, tokens):
    return tuple([0 if token in tokens else weight for token, weight in enumerate(weights)])
