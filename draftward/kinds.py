"""The kinds of values that several parts of the program ask for, and how two values differ."""


def is_integer(thing):
    """Tell whether thing is an integer, which a bool is not."""
    return isinstance(thing, int) and not isinstance(thing, bool)


def is_integer_from(thing, least):
    """Tell whether thing is an integer from least on."""
    return is_integer(thing) and thing >= least


def is_number_below(thing, many):
    """Tell whether thing is one of so many numbers, from 0 on."""
    return is_integer(thing) and 0 <= thing < many


def is_token(thing, many):
    """Tell whether thing is one of so many tokens, which are numbered from 0."""
    return is_number_below(thing, many)


def are_tokens(thing, many):
    """Tell whether thing is a tuple, perhaps empty, of some of so many tokens."""
    return isinstance(thing, tuple) and all(is_token(item, many) for item in thing)


def are_weights(thing):
    """Tell whether thing is a tuple of integers from 0 on that are not all 0."""
    if not isinstance(thing, tuple):
        return False
    return all(is_integer_from(item, 0) for item in thing) and sum(thing) > 0


def are_small_letters(thing):
    """Tell whether thing is a string, perhaps empty, of letters from a to z."""
    return isinstance(thing, str) and all("a" <= letter <= "z" for letter in thing)


def is_tuple_of(thing, many):
    """Tell whether thing is a tuple of so many items, of whatever kinds."""
    return isinstance(thing, tuple) and len(thing) == many


def is_ascending(things):
    """Tell whether things, which can be compared, are sorted and without duplicates."""
    return all([one < other for one, other in zip(things, things[1:])])


def same(right, thing):
    """Tell whether thing is right, with all its parts of the same kinds as those of right."""
    if isinstance(right, tuple):
        return isinstance(thing, tuple) and first_difference(right, thing) is None
    # Python takes True for 1, but here a bool is no integer.
    if isinstance(right, bool) != isinstance(thing, bool):
        return False
    return isinstance(right, int) == isinstance(thing, int) and right == thing


def first_difference(right, thing):
    """Return the least position at which the tuple thing differs from right, or None."""
    for at, (item, other) in enumerate(zip(right, thing)):
        if not same(item, other):
            return at
    if len(right) == len(thing):
        return None
    return min(len(right), len(thing))


def certificate(right, thing):
    """Return the certificate that tells whether, or where, the tuple thing differs from right."""
    at = first_difference(right, thing)
    return ("right",) if at is None else ("wrong", at)


def are_open_tokens(thing, many):
    """Tell whether thing is a tuple, perhaps empty, of some of so many tokens, none of them the end token."""
    return are_tokens(thing, many) and 0 not in thing


def is_tape(thing):
    """Tell whether thing is a tape: a tuple, perhaps empty, of integers from 0 on."""
    return isinstance(thing, tuple) and all(is_integer_from(item, 0) for item in thing)
