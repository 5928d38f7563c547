"""Models as data: tables by the last tokens, and small attention networks with integer weights."""

from draftward.errors import BadModel, BadRows, BadToken, BadTokens
from draftward.kinds import are_tokens, are_weights, certificate, is_ascending, is_integer, is_integer_from
from draftward.kinds import is_token, is_tuple_of

GREATEST_ITEM = 20
GREATEST_SHARE = 64
MOST_HALVINGS = 6


def is_model(thing):
    """Tell whether any value is a model."""
    return _is_window_model(thing) or _is_network(thing)


def model_size(model):
    """Return how many tokens the model has."""
    _need_model(model)
    return model[1]


def model_weights(model, tokens):
    """Return the weights of the next token after the tokens."""
    _need_model(model)
    _need_tokens(model, tokens)
    return weights_after(model, tokens)


def rows_of(model, tokens):
    """Return the rows of all positions of the tokens."""
    _need_model(model)
    _need_tokens(model, tokens)
    return rows_after(model, tokens)


def stepped(model, rows, token):
    """Return the row of the position after the rows, which holds the token, and the weights after it."""
    _need_model(model)
    if not are_rows(model, rows):
        raise BadRows(rows)
    if not is_token(token, model[1]):
        raise BadToken(token)
    return next_row(model, rows, token)


def judge_rows(model, tokens, thing):
    """Return the certificate that tells whether any value is the tuple of the rows of the tokens."""
    _need_model(model)
    _need_tokens(model, tokens)
    if not isinstance(thing, tuple):
        return ("none",)
    return certificate(rows_after(model, tokens), thing)


def are_rows(model, thing):
    """Tell whether thing is a tuple of rows in the form of the model."""
    return isinstance(thing, tuple) and all(is_row(model, row) for row in thing)


def is_row(model, thing):
    """Tell whether thing is a row in the form of the model."""
    if model[0] == "window":
        return is_tuple_of(thing, 1) and is_token(thing[0], model[1])
    width = model[2]
    layers = model[5]
    return is_tuple_of(thing, len(layers)) and all(_are_vectors(pair, 2, width) for pair in thing)


def weights_after(model, tokens):
    """Return the weights after the tokens of the model, both of which are known to be right."""
    # A table is read off at once: the rows would only repeat the tokens.
    if model[0] == "window":
        return _window_weights(model, tokens)
    rows = rows_after(model, tokens[:-1])
    return next_row(model, rows, tokens[-1])[1]


def rows_after(model, tokens):
    """Return the rows of the tokens of the model, both of which are known to be right."""
    rows = ()
    for token in tokens:
        row = next_row(model, rows, token)[0]
        rows = (*rows, row)
    return rows


def next_row(model, rows, token):
    """Return the pair that stepped returns, for arguments that are known to be right."""
    if model[0] == "window":
        tokens = tuple([row[0] for row in rows]) + (token,)
        return ((token,), _window_weights(model, tokens))
    return _network_step(model, rows, token)


def _need_model(model):
    if not is_model(model):
        raise BadModel(model)


def _need_tokens(model, tokens):
    if not are_tokens(tokens, model[1]) or tokens == ():
        raise BadTokens(tokens)


def _is_window_model(thing):
    if not is_tuple_of(thing, 5) or thing[0] != "window":
        return False
    _, many, k, entries, default = thing
    if not (is_integer_from(many, 2) and is_integer_from(k, 0) and isinstance(entries, tuple)):
        return False
    if not all(_is_entry(entry, many, k) for entry in entries):
        return False
    return _are_model_weights(default, many) and is_ascending([last for last, _ in entries])


def _is_entry(thing, many, k):
    if not is_tuple_of(thing, 2):
        return False
    last, weights = thing
    return are_tokens(last, many) and len(last) <= k and _are_model_weights(weights, many)


def _are_model_weights(thing, many):
    return are_weights(thing) and len(thing) == many


def _window_weights(model, tokens):
    _, _, k, entries, default = model
    seen = tokens[max(0, len(tokens) - k):]
    for last, weights in entries:
        if last == seen:
            return weights
    return default


def _is_network(thing):
    if not is_tuple_of(thing, 7) or thing[0] != "net":
        return False
    _, many, width, embeds, places, layers, outs = thing
    if not (is_integer_from(many, 2) and is_integer_from(width, 1)):
        return False
    if not (_are_vectors(embeds, many, width) and _are_vectors(outs, many, width)):
        return False
    if not isinstance(places, tuple) or places == () or not _are_vectors(places, len(places), width):
        return False
    return isinstance(layers, tuple) and all(_is_layer(layer, width) for layer in layers)


def _is_layer(thing, width):
    return is_tuple_of(thing, 4) and all(_are_vectors(matrix, width, width) for matrix in thing)


def _are_vectors(thing, many, width):
    """Tell whether thing is a tuple of so many vectors of the width."""
    return is_tuple_of(thing, many) and all(_is_vector(vector, width) for vector in thing)


def _is_vector(thing, width):
    return is_tuple_of(thing, width) and all(is_integer(item) for item in thing)


def _network_step(model, rows, token):
    """Return the row and the weights of the position after the rows, which holds the token."""
    _, _, _, embeds, places, layers, outs = model
    state = _clipped_sum(embeds[token], places[len(rows) % len(places)])
    row = []
    for at, (asking, keys, worths, mixing) in enumerate(layers):
        pair = (_times(keys, state), _times(worths, state))
        row.append(pair)
        pairs = [earlier[at] for earlier in rows] + [pair]
        mixed = _mixed(_times(asking, state), pairs)
        state = _clipped_sum(state, _times(mixing, mixed))
    return (tuple(row), _shares(_times(outs, state)))


def _mixed(asked, pairs):
    """Return the mean of the worths, rounded down, each counted by how well its key answers."""
    shares = _shares([_scalar_product(asked, key) for key, _ in pairs])
    whole = sum(shares)
    worths = [worth for _, worth in pairs]
    return tuple([_scalar_product(shares, column) // whole for column in zip(*worths)])


def _shares(scores):
    """Return 64 for the greatest score, and for each other one half as much for each point less, but at least 1."""
    greatest = max(scores)
    return tuple([GREATEST_SHARE >> min(MOST_HALVINGS, greatest - score) for score in scores])


def _times(matrix, vector):
    return tuple([_scalar_product(row, vector) for row in matrix])


def _scalar_product(one, other):
    return sum([item * partner for item, partner in zip(one, other)])


def _clipped_sum(one, other):
    return tuple([_clipped(item + partner) for item, partner in zip(one, other)])


def _clipped(item):
    return max(-GREATEST_ITEM, min(GREATEST_ITEM, item))
