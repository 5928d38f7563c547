"""Pages: what was worked out is kept in the pages of a pool, and requests share them."""

from draftward.errors import BadPool, BadRequest, BadRows, BadToken, BadTokens
from draftward.kinds import are_tokens, is_integer_from, is_token
from draftward.models import is_row
from draftward.needs import need_model, need_number
from draftward.pools import count_free, has_list, has_true_rows, is_pool_of, list_of, pairs_of
from draftward.pools import with_added, with_joined, with_list, without_list


def is_pool(model, thing):
    """Tell whether any value is a pool of the model."""
    need_model(model)
    return is_pool_of(model, thing)


def is_true(model, pool):
    """Tell whether all rows that are kept are those of the tokens that are kept."""
    _need_pool(model, pool)
    return has_true_rows(model, pool)


def new_pool(model, many, places):
    """Return the pool with so many free pages, each with so many places, and no lists."""
    need_model(model)
    need_number(many, 1)
    need_number(places, 1)
    return (places, (None,) * many, ())


def kept(model, pool, number):
    """Return the pairs that the request keeps."""
    _need_listed(model, pool, number)
    return pairs_of(pool, number)


def free_pages(model, pool):
    """Return how many pages are free."""
    _need_pool(model, pool)
    return count_free(pool)


def joined(model, pool, number, tokens):
    """Return the pool in which the request has a list, with the pages of another one that serve its tokens."""
    _need_pool(model, pool)
    _need_new(pool, number)
    if not are_tokens(tokens, model[1]) or tokens == ():
        raise BadTokens(tokens)
    return with_joined(pool, number, tokens)


def added(model, pool, number, token, row):
    """Return the pool in which the request keeps the token and its row, too, or None if there is no page for them."""
    _need_listed(model, pool, number)
    if not is_token(token, model[1]):
        raise BadToken(token)
    if not is_row(model, row):
        raise BadRows(row)
    return with_added(pool, number, (token, row))


def copied(model, pool, number, new):
    """Return the pool in which the new request has the same pages as the request with the number."""
    _need_listed(model, pool, number)
    _need_new(pool, new)
    return with_list(pool, new, list_of(pool, number))


def cleared(model, pool, number):
    """Return the pool in which the request has no list."""
    _need_listed(model, pool, number)
    return without_list(pool, number)


def lost(model, pool, number):
    """Return the pool in which the list of the request is empty."""
    _need_listed(model, pool, number)
    return with_list(pool, number, ())


def _need_pool(model, pool):
    need_model(model)
    if not is_pool_of(model, pool):
        raise BadPool(pool)


def _need_new(pool, number):
    if not is_integer_from(number, 0) or has_list(pool, number):
        raise BadRequest(number)


def _need_listed(model, pool, number):
    _need_pool(model, pool)
    if not is_integer_from(number, 0) or not has_list(pool, number):
        raise BadRequest(number)
