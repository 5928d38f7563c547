"""Vocabularies: how texts become tokens, and how vocabularies are trained."""

from draftward.errors import BadNumber, BadText, BadTexts, BadToken, BadTokens, BadVocabulary
from draftward.kinds import are_small_letters, are_tokens, certificate, is_integer_from, is_token, is_tuple_of

MOST_LETTERS = 6
MOST_MERGES = 10


def is_vocabulary(thing):
    """Tell whether any value is a vocabulary."""
    if not is_tuple_of(thing, 3) or thing[0] != "vocabulary":
        return False
    _, letters, merges = thing
    return _are_letters(letters) and _are_merges(letters, merges)


def size(vocabulary):
    """Return how many tokens the vocabulary has."""
    _need_vocabulary(vocabulary)
    return _size_of(vocabulary)


def piece(vocabulary, token):
    """Return the string that the token stands for."""
    _need_vocabulary(vocabulary)
    if not is_token(token, _size_of(vocabulary)):
        raise BadToken(token)
    return pieces_of(vocabulary)[token]


def to_tokens(vocabulary, text):
    """Return the tokens of the text."""
    _need_vocabulary(vocabulary)
    _need_text(vocabulary, text)
    return tokens_of(vocabulary, text)


def to_text(vocabulary, tokens):
    """Return the text of the tokens."""
    _need_vocabulary(vocabulary)
    if not are_tokens(tokens, _size_of(vocabulary)):
        raise BadTokens(tokens)
    pieces = pieces_of(vocabulary)
    return "".join([pieces[token] for token in tokens])


def judge_tokens(vocabulary, text, thing):
    """Return the certificate that tells whether any value is the tuple of the tokens of the text."""
    _need_vocabulary(vocabulary)
    _need_text(vocabulary, text)
    if not are_tokens(thing, _size_of(vocabulary)):
        return ("none",)
    return certificate(tokens_of(vocabulary, text), thing)


def trained(texts, n):
    """Return the vocabulary that training on the texts gives, with at most n merges."""
    if not _are_texts(texts):
        raise BadTexts(texts)
    if not is_integer_from(n, 0):
        raise BadNumber(n)
    letters = "".join(sorted(set("".join(texts))))
    rows = [_letter_tokens(letters, text) for text in texts]
    merges = []
    while len(merges) < min(n, MOST_MERGES):
        made = 1 + len(letters) + len(merges)
        merge = next_merge(rows, _pieces(letters, merges))
        if merge is None:
            break
        merges.append(merge)
        rows = [_merged(row, merge, made) for row in rows]
    return ("vocabulary", letters, tuple(merges))


def pieces_of(vocabulary):
    """Return the pieces of all tokens, in the order of their numbers."""
    _, letters, merges = vocabulary
    return _pieces(letters, merges)


def tokens_of(vocabulary, text):
    """Return the tokens of the text, both of which are known to be right."""
    _, letters, merges = vocabulary
    tokens = _letter_tokens(letters, text)
    for at, merge in enumerate(merges):
        tokens = _merged(tokens, merge, 1 + len(letters) + at)
    return tokens


def next_merge(rows, pieces):
    """Return the pair of tokens that is merged next in the rows of tokens, or None."""
    counts = {}
    for row in rows:
        for i, j in zip(row, row[1:]):
            # No two tokens may have the same piece, however often the pair occurs.
            if pieces[i] + pieces[j] not in pieces:
                counts[(i, j)] = counts.get((i, j), 0) + 1
    greatest = max(counts.values(), default=0)
    if greatest < 2:
        return None
    return min([pair for pair in counts if counts[pair] == greatest])


def _need_vocabulary(vocabulary):
    if not is_vocabulary(vocabulary):
        raise BadVocabulary(vocabulary)


def _need_text(vocabulary, text):
    if not isinstance(text, str) or not all(letter in vocabulary[1] for letter in text):
        raise BadText(text)


def _are_letters(thing):
    if not are_small_letters(thing) or not 1 <= len(thing) <= MOST_LETTERS:
        return False
    return len(set(thing)) == len(thing)


def _are_merges(letters, thing):
    if not isinstance(thing, tuple) or len(thing) > MOST_MERGES:
        return False
    for at, merge in enumerate(thing):
        if not _is_merge(merge, 1 + len(letters) + at):
            return False
    pieces = _pieces(letters, thing)
    return len(set(pieces)) == len(pieces)


def _is_merge(thing, made):
    """Tell whether thing is a pair of tokens before the token made, without the end token."""
    return is_tuple_of(thing, 2) and all(is_integer_from(item, 1) and item < made for item in thing)


def _are_texts(thing):
    if not isinstance(thing, tuple) or not all(are_small_letters(text) for text in thing):
        return False
    return 1 <= len(set("".join(thing))) <= MOST_LETTERS


def _size_of(vocabulary):
    return 1 + len(vocabulary[1]) + len(vocabulary[2])


def _pieces(letters, merges):
    pieces = ["", *letters]
    for i, j in merges:
        pieces.append(pieces[i] + pieces[j])
    return pieces


def _letter_tokens(letters, text):
    return tuple([1 + letters.index(letter) for letter in text])


def _merged(tokens, merge, made):
    """Return the tokens with each pair that is the merge, from left to right, replaced by made."""
    found = []
    at = 0
    while at < len(tokens):
        if tokens[at:at + 2] == merge:
            found.append(made)
            at += 2
        else:
            found.append(tokens[at])
            at += 1
    return tuple(found)
