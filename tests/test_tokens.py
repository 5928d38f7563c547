"""Vocabularies, and texts to tokens and back [1.1], [1.2], [1.4]."""

import itertools
import random
import re
import unittest

from draftward.errors import BadText, BadToken, BadTokens, BadVocabulary
from draftward.tokens import is_vocabulary, judge_tokens, piece, size, to_text, to_tokens
from samples import ODD, Case, is_int, spoiled

PLAIN = ("vocabulary", "ab", ())
PAIRS = ("vocabulary", "ab", ((1, 2),))
DOUBLE = ("vocabulary", "a", ((1, 1), (2, 2), (2, 1)))
MIXED = ("vocabulary", "cab", ((2, 3), (4, 4), (1, 4), (3, 3)))
TEN = ("vocabulary", "fedcba", tuple((at, 1) for at in range(1, 11)))
LONG = ("vocabulary", "z", tuple((at, at) for at in range(1, 11)))
VOCABULARIES = (PLAIN, PAIRS, DOUBLE, MIXED, TEN, LONG)


def pieces(letters, merges):
    found = {0: ""}
    for at, letter in enumerate(letters, 1):
        found[at] = letter
    for i, j in merges:
        found[len(found)] = found[i] + found[j]
    return found


def is_right(thing):
    """Tell whether thing is a vocabulary, in other words than the program's."""
    if type(thing) is not tuple or len(thing) != 3 or thing[0] != "vocabulary":
        return False
    letters, merges = thing[1:]
    if type(letters) is not str or not re.fullmatch("[a-z]{1,6}", letters) or len(set(letters)) < len(letters):
        return False
    if type(merges) is not tuple or len(merges) > 10:
        return False
    for own, merge in enumerate(merges, len(letters) + 1):
        if type(merge) is not tuple or len(merge) != 2 or not all(map(is_int, merge)):
            return False
        if min(merge) < 1 or max(merge) >= own:
            return False
    found = list(pieces(letters, merges).values())
    return len(set(found)) == len(found)


def tokens_by_hand(vocabulary, text):
    """Return the tokens of the text, worked out in strings of one character for each token."""
    _, letters, merges = vocabulary
    line = "".join(chr(200 + 1 + letters.index(letter)) for letter in text)
    for own, (i, j) in enumerate(merges, len(letters) + 1):
        line = line.replace(chr(200 + i) + chr(200 + j), chr(200 + own))
    return tuple(ord(sign) - 200 for sign in line)


def some_texts(letters, seed):
    for many in range(5):
        yield from map("".join, itertools.product(letters, repeat=many))
    source = random.Random(seed)
    for many in (10, 20, 40, 60, 90):
        yield "".join(source.choice(letters) for _ in range(many))
        yield letters[0] * many


class Vocabularies(Case):

    def test_right_ones(self):
        for vocabulary in VOCABULARIES:
            self.assertIs(is_vocabulary(vocabulary), True)

    def test_wrong_letters(self):
        for letters in ("", "abcdefg", "aa", "aba", "aB", "a1", "a ", "a\n", "\n", "ab\n", "a{", "`a", "\u00e4", "1",
                        ("a", "b"), ["a"], 1, None, True):
            self.assertIs(is_vocabulary(("vocabulary", letters, ())), False, letters)
        for letters in ("a", "z", "az", "za", "abcdef", "fedcba"):
            self.assertIs(is_vocabulary(("vocabulary", letters, ())), True, letters)

    def test_wrong_merges(self):
        for merges in ([], None, "", ((1,),), ((1, 2, 1),), ([1, 2],), (1, 2), ((True, 2),), ((1, True),),
                       ((1, "b"),), ((1, 2), None), {}, ((1, 2), [1, 1])):
            self.assertIs(is_vocabulary(("vocabulary", "ab", merges)), False, merges)

    def test_no_merges_ten_and_eleven(self):
        self.assertIs(is_vocabulary(("vocabulary", "a", ())), True)
        self.assertIs(is_vocabulary(("vocabulary", "a", tuple((at, 1) for at in range(1, 11)))), True)
        self.assertIs(is_vocabulary(("vocabulary", "a", tuple((at, 1) for at in range(1, 12)))), False)

    def test_merges_consist_of_tokens_before_their_own_from_1_on(self):
        for merge in ((0, 1), (1, 0), (0, 0), (-1, 1), (1, -1), (3, 1), (1, 3), (4, 1), (1, 10 ** 39)):
            self.assertIs(is_vocabulary(("vocabulary", "ab", (merge,))), False, merge)
            self.assertIs(is_vocabulary(("vocabulary", "ab", (merge, (1, 2)))), False, merge)
        self.assertIs(is_vocabulary(("vocabulary", "ab", ((1, 2), (3, 3)))), True)
        self.assertIs(is_vocabulary(("vocabulary", "ab", ((1, 2), (3, 4)))), False)
        self.assertIs(is_vocabulary(("vocabulary", "ab", ((1, 2), (4, 1)))), False)

    def test_no_two_tokens_have_the_same_piece(self):
        self.assertIs(is_vocabulary(("vocabulary", "a", ((1, 1), (1, 2)))), True)
        self.assertIs(is_vocabulary(("vocabulary", "a", ((1, 1), (2, 1)))), True)
        self.assertIs(is_vocabulary(("vocabulary", "a", ((1, 1), (1, 2), (2, 1)))), False)
        self.assertIs(is_vocabulary(("vocabulary", "ab", ((1, 2), (1, 2)))), False)
        self.assertIs(is_vocabulary(("vocabulary", "ab", ((1, 2), (2, 1), (3, 1), (1, 4)))), False)

    def test_forms(self):
        for thing in (("vocabulary", "a"), ("vocabulary", "a", (), ()), ["vocabulary", "a", ()], ("Vocabulary", "a", ()),
                      ("vocabulary\n", "a", ()), ("a", "a", ()), (None, "a", ()), "vocabulary", {"vocabulary": "a"}):
            self.assertIs(is_vocabulary(thing), False, thing)

    def test_any_values(self):
        for thing in ODD:
            self.assertIs(is_vocabulary(thing), False, thing)
        for vocabulary in (PAIRS, DOUBLE, MIXED):
            for thing in spoiled(vocabulary):
                self.assertIs(is_vocabulary(thing), is_right(thing), thing)

    def test_all_pairs_of_merges(self):
        numbers = range(-1, 6)
        for one in itertools.product(numbers, repeat=2):
            for other in itertools.product(numbers, repeat=2):
                thing = ("vocabulary", "ab", (one, other))
                self.assertIs(is_vocabulary(thing), is_right(thing), thing)

    def test_size(self):
        self.same([size(vocabulary) for vocabulary in VOCABULARIES], [3, 4, 5, 8, 17, 12])

    def test_pieces(self):
        self.same([piece(MIXED, token) for token in range(8)], ["", "c", "a", "b", "ab", "abab", "cab", "bb"])
        self.same(piece(LONG, 11), "z" * 1024)
        for vocabulary in VOCABULARIES:
            found = {token: piece(vocabulary, token) for token in range(size(vocabulary))}
            self.same(found, pieces(*vocabulary[1:]))

    def test_piece_of_no_token(self):
        for token in (-1, 4, 5, True, False, None, "", "a", "1", (), (1,), [1], {}, 10 ** 39, -(10 ** 39)):
            self.fails(BadToken, token, piece, PAIRS, token)


class Texts(Case):

    def test_given_ones(self):
        self.same(to_tokens(PAIRS, ""), ())
        self.same(to_tokens(PAIRS, "a"), (1,))
        self.same(to_tokens(PAIRS, "ab"), (3,))
        self.same(to_tokens(PAIRS, "ba"), (2, 1))
        self.same(to_tokens(PAIRS, "aabba"), (1, 3, 2, 1))
        self.same(to_tokens(("vocabulary", "ba", ()), "ab"), (2, 1))

    def test_overlapping_pairs_from_left_to_right(self):
        two = ("vocabulary", "ab", ((1, 1),))
        self.same(to_tokens(two, "aaa"), (3, 1))
        self.same(to_tokens(two, "aaaa"), (3, 3))
        self.same(to_tokens(two, "aaaaa"), (3, 3, 1))
        self.same(to_tokens(two, "baaab"), (2, 3, 1, 2))
        self.same(to_tokens(DOUBLE, "a" * 7), (3, 4))

    def test_merges_are_applied_in_order(self):
        self.same(to_tokens(("vocabulary", "abc", ((1, 2), (2, 3))), "abc"), (4, 3))
        self.same(to_tokens(("vocabulary", "abc", ((2, 3), (1, 2))), "abc"), (1, 4))
        self.same(to_tokens(("vocabulary", "abc", ((2, 3), (1, 4))), "abcab"), (5, 1, 2))

    def test_by_hand(self):
        for vocabulary in VOCABULARIES:
            for text in some_texts(vocabulary[1], 3):
                self.same(to_tokens(vocabulary, text), tokens_by_hand(vocabulary, text))

    def test_no_merge_applies_afterwards(self):
        for vocabulary in VOCABULARIES:
            for text in some_texts(vocabulary[1], 4):
                tokens = to_tokens(vocabulary, text)
                self.assertFalse([pair for pair in zip(tokens, tokens[1:]) if pair in vocabulary[2]])

    def test_the_text_of_the_tokens_of_a_text_is_the_text(self):
        for vocabulary in VOCABULARIES:
            for text in some_texts(vocabulary[1], 5):
                self.same(to_text(vocabulary, to_tokens(vocabulary, text)), text)

    def test_text_of_any_tokens(self):
        self.same(to_text(PAIRS, ()), "")
        self.same(to_text(PAIRS, (0, 0)), "")
        self.same(to_text(PAIRS, (0, 3, 0, 3, 2, 1)), "ababba")
        self.same(to_text(PAIRS, (1, 2)), "ab")
        for tokens in itertools.product(range(8), repeat=3):
            found = pieces(*MIXED[1:])
            self.same(to_text(MIXED, tokens), "".join(found[token] for token in tokens))

    def test_shown_letters_are_never_taken_back(self):
        for vocabulary in VOCABULARIES:
            for text in some_texts(vocabulary[1], 6):
                tokens = to_tokens(vocabulary, text)
                shown = [to_text(vocabulary, tokens[:many]) for many in range(len(tokens) + 1)]
                for one, other in zip(shown, shown[1:]):
                    self.assertTrue(other.startswith(one))

    def test_wrong_texts(self):
        for text in ("c", "abc", "ab\n", "\n", "A", " ", "a b", "0", None, True, 0, 1, ("a",), ["a"], (), [], {}):
            self.fails(BadText, text, to_tokens, PAIRS, text)
            self.fails(BadText, text, judge_tokens, PAIRS, text, ())

    def test_wrong_tokens(self):
        for tokens in ([], [1], None, 1, True, "", "ab", {}, (4,), (-1,), (1, 4), (True,), (1, False), ("a",), (None,),
                       ((1,),), ([],), (1, 2, 10 ** 39), ({},)):
            self.fails(BadTokens, tokens, to_text, PAIRS, tokens)


class Judged(Case):

    def test_right(self):
        for vocabulary in VOCABULARIES:
            for text in some_texts(vocabulary[1], 7):
                self.same(judge_tokens(vocabulary, text, tokens_by_hand(vocabulary, text)), ("right",))
        self.same(judge_tokens(PAIRS, "", ()), ("right",))

    def test_wrong(self):
        self.same(judge_tokens(PAIRS, "aabb", (1, 3, 2)), ("right",))
        self.same(judge_tokens(PAIRS, "aabb", ()), ("wrong", 0))
        self.same(judge_tokens(PAIRS, "aabb", (1, 3)), ("wrong", 2))
        self.same(judge_tokens(PAIRS, "aabb", (1, 3, 2, 0)), ("wrong", 3))
        self.same(judge_tokens(PAIRS, "aabb", (1, 3, 2, 1, 1)), ("wrong", 3))
        self.same(judge_tokens(PAIRS, "aabb", (1, 1, 2, 2)), ("wrong", 1))
        self.same(judge_tokens(PAIRS, "aabb", (2,)), ("wrong", 0))
        self.same(judge_tokens(PAIRS, "aabb", (0, 1, 3, 2)), ("wrong", 0))
        self.same(judge_tokens(PAIRS, "aabb", (1, 3, 1)), ("wrong", 2))
        self.same(judge_tokens(PAIRS, "", (0,)), ("wrong", 0))

    def test_none(self):
        for thing in ([1, 3, 2], (1, 3, 4), (1, 3, -1), (True, 3, 2), (1, 3, 2, False), (1, 3, "2"), (1, (3,), 2), None,
                      "aabb", 132, True, {}, (1, 3, None), [], (None,), "right", ("right",)):
            self.same(judge_tokens(PAIRS, "aabb", thing), ("none",))

    def test_any_values(self):
        right = (1, 3, 2)
        for thing in spoiled(right):
            if type(thing) is not tuple or not all(is_int(item) and 0 <= item < 4 for item in thing):
                told = ("none",)
            elif thing == right:
                told = ("right",)
            else:
                filled = zip(thing + (9,) * 4, right + (8,) * (4 + len(thing)))
                told = ("wrong", [one == other for one, other in filled].index(False))
            self.same(judge_tokens(PAIRS, "aabb", thing), told)


class Errors(Case):

    def test_the_vocabulary_comes_first(self):
        for thing in (None, [], ("vocabulary", "ab", ((True, 2),)), ("vocabulary", "ab\n", ()), list(PAIRS)):
            self.fails(BadVocabulary, thing, size, thing)
            self.fails(BadVocabulary, thing, piece, thing, None)
            self.fails(BadVocabulary, thing, to_tokens, thing, None)
            self.fails(BadVocabulary, thing, to_text, thing, None)
            self.fails(BadVocabulary, thing, judge_tokens, thing, None, None)
            self.fails(BadVocabulary, thing, piece, thing, 1)
            self.fails(BadVocabulary, thing, to_tokens, thing, "ab")
            self.fails(BadVocabulary, thing, to_text, thing, (1,))
            self.fails(BadVocabulary, thing, judge_tokens, thing, "ab", (1,))

    def test_any_values_in_place_of_the_vocabulary(self):
        for thing in spoiled(PAIRS):
            if not is_right(thing):
                self.fails(BadVocabulary, thing, size, thing)
                self.fails(BadVocabulary, thing, judge_tokens, thing, None, None)

    def test_any_values_in_the_other_places(self):
        for thing in ODD:
            if not is_int(thing) or not 0 <= thing < 4:
                self.fails(BadToken, thing, piece, PAIRS, thing)
            if type(thing) is not str or not set(thing) <= set("ab"):
                self.fails(BadText, thing, to_tokens, PAIRS, thing)
                self.fails(BadText, thing, judge_tokens, PAIRS, thing, thing)
            if type(thing) is not tuple or not all(is_int(item) and 0 <= item < 4 for item in thing):
                self.fails(BadTokens, thing, to_text, PAIRS, thing)

    def test_by_name(self):
        self.same(is_vocabulary(thing=PAIRS), True)
        self.same(size(vocabulary=PAIRS), 4)
        self.same(piece(token=3, vocabulary=PAIRS), "ab")
        self.same(to_tokens(text="aab", vocabulary=PAIRS), (1, 3))
        self.same(to_text(tokens=(1, 3), vocabulary=PAIRS), "aab")
        self.same(judge_tokens(thing=(1, 3), text="aab", vocabulary=PAIRS), ("right",))
        self.fails(BadToken, 4, piece, token=4, vocabulary=PAIRS)
        self.fails(BadText, "c", judge_tokens, thing=(), text="c", vocabulary=PAIRS)

    def test_beyond_the_limits(self):
        text = "ab" * 100
        self.same(to_tokens(PAIRS, text), (3,) * 100)
        self.same(to_text(PAIRS, (3,) * 100), text)
        self.same(judge_tokens(PAIRS, text, (3,) * 101), ("wrong", 100))


if __name__ == "__main__":
    unittest.main()
