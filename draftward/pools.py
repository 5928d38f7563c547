"""Pools of pages: their form, and their changes for values that are known to be right."""

from draftward.kinds import is_ascending, is_integer_from, is_number_below, is_token, is_tuple_of
from draftward.models import is_row, rows_after


def is_pool_of(model, thing):
    """Tell whether thing is a pool of the model, which is known to be right."""
    if not is_tuple_of(thing, 3):
        return False
    places, pages, lists = thing
    if not is_integer_from(places, 1) or not isinstance(pages, tuple) or not isinstance(lists, tuple):
        return False
    if not all(page is None or _is_page(model, places, page) for page in pages):
        return False
    if not all(_is_list(places, pages, row) for row in lists) or not is_ascending([number for number, _ in lists]):
        return False
    listed = [at for _, numbers in lists for at in numbers]
    return all(page is None or at in listed for at, page in enumerate(pages))


def has_true_rows(model, pool):
    """Tell whether the rows that are kept in the pool are, for each list, those of the tokens that are kept."""
    return all(_are_true(model, pairs_of(pool, number)) for number, _ in pool[2])


def has_list(pool, number):
    """Tell whether the request with the number, an integer, has a list in the pool."""
    return number in [other for other, _ in pool[2]]


def pairs_of(pool, number):
    """Return the pairs that the request keeps."""
    _, pages, _ = pool
    return tuple([pair for at in list_of(pool, number) for pair in pages[at]])


def list_of(pool, number):
    """Return the page numbers of the request."""
    return dict(pool[2])[number]


def count_free(pool):
    """Return how many pages of the pool are free."""
    return pool[1].count(None)


def with_joined(pool, number, tokens):
    """Return the pool in which the request has a list, which shares as many full pages as serve its tokens."""
    best = ()
    for _, numbers in pool[2]:
        serving = _serving(pool, numbers, tokens)
        if len(serving) > len(best):
            best = serving
    return with_list(pool, number, best)


def with_added(pool, number, pair):
    """Return the pool in which the request keeps the pair, too, or None if there is no page for it."""
    places, pages, _ = pool
    numbers = list_of(pool, number)
    if numbers == () or len(pages[numbers[-1]]) == places:
        return _with_taken(pool, number, numbers, (pair,))
    last = numbers[-1]
    filled = (*pages[last], pair)
    if _is_shared(pool, last):
        return _with_taken(pool, number, numbers[:-1], filled)
    return _with_page(pool, last, filled)


def with_list(pool, number, numbers):
    """Return the pool in which the request has this list, and the pages that are in no list are free."""
    lists = dict(pool[2])
    lists[number] = numbers
    return _with_lists(pool, lists)


def without_list(pool, number):
    """Return the pool in which the request has no list."""
    lists = dict(pool[2])
    del lists[number]
    return _with_lists(pool, lists)


def _with_lists(pool, lists):
    places, pages, _ = pool
    listed = [at for numbers in lists.values() for at in numbers]
    still = [page if at in listed else None for at, page in enumerate(pages)]
    return (places, tuple(still), tuple(sorted(lists.items())))


def _with_page(pool, at, page):
    places, pages, lists = pool
    return (places, (*pages[:at], page, *pages[at + 1:]), lists)


def _with_taken(pool, number, numbers, page):
    """Return the pool in which the list of the request is the numbers and a taken page, or None if none is free."""
    if count_free(pool) == 0:
        return None
    taken = pool[1].index(None)
    return with_list(_with_page(pool, taken, page), number, (*numbers, taken))


def _is_shared(pool, page):
    return len([numbers for _, numbers in pool[2] if page in numbers]) > 1


def _serving(pool, numbers, tokens):
    """Return the first of the pages that are full and together hold a beginning of the tokens, but not all of them."""
    places, pages, _ = pool
    for many, at in enumerate(numbers):
        held = tuple([token for token, _ in pages[at]])
        begin = many * places
        if len(held) < places or held != tokens[begin:begin + places] or begin + places >= len(tokens):
            return numbers[:many]
    return numbers


def _is_page(model, places, thing):
    if not isinstance(thing, tuple) or not 1 <= len(thing) <= places:
        return False
    return all(_is_pair(model, pair) for pair in thing)


def _is_pair(model, thing):
    return is_tuple_of(thing, 2) and is_token(thing[0], model[1]) and is_row(model, thing[1])


def _is_list(places, pages, thing):
    if not is_tuple_of(thing, 2):
        return False
    number, numbers = thing
    if not is_integer_from(number, 0) or not isinstance(numbers, tuple):
        return False
    if not all(is_number_below(at, len(pages)) and pages[at] is not None for at in numbers):
        return False
    return len(set(numbers)) == len(numbers) and all(len(pages[at]) == places for at in numbers[:-1])


def _are_true(model, pairs):
    return rows_after(model, [token for token, _ in pairs]) == tuple([row for _, row in pairs])
