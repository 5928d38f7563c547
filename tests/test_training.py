"""Training [1.3]."""

import random
import re
import unittest

from draftward.errors import BadNumber, BadTexts
from draftward.tokens import is_vocabulary, next_merge, piece, size, to_tokens, trained
from samples import ODD, Case, is_int, spoiled


def trained_by_hand(texts, n):
    """Return the vocabulary, counted in another way: positions over all texts, pieces as strings."""
    letters = "".join(sorted({letter for text in texts for letter in text}))
    merges = []
    while len(merges) < n and len(merges) < 10:
        vocabulary = ("vocabulary", letters, tuple(merges))
        strings = [piece(vocabulary, token) for token in range(size(vocabulary))]
        rows = [to_tokens(vocabulary, text) for text in texts]
        pairs = [row[at:at + 2] for row in rows for at in range(len(row) - 1)]
        ranked = sorted((-pairs.count(pair), pair) for pair in set(pairs)
                        if strings[pair[0]] + strings[pair[1]] not in strings)
        if not ranked or ranked[0][0] > -2:
            break
        merges.append(ranked[0][1])
    return ("vocabulary", letters, tuple(merges))


def are_right(thing):
    if type(thing) is not tuple or not all(type(text) is str and re.fullmatch("[a-z]*", text) for text in thing):
        return False
    return 1 <= len({letter for text in thing for letter in text}) <= 6


class Training(Case):

    def test_given_ones(self):
        self.same(trained(("aab", "ab"), 2), ("vocabulary", "ab", ((1, 2),)))
        self.same(trained(("abab", "abab"), 2), ("vocabulary", "ab", ((1, 2), (3, 3))))
        self.same(trained(("ba",), 5), ("vocabulary", "ab", ()))
        self.same(trained(("zyx", "zyx"), 9), ("vocabulary", "xyz", ((2, 1), (3, 4))))

    def test_no_merges(self):
        self.same(trained(("abab", "abab"), 0), ("vocabulary", "ab", ()))
        self.same(trained(("a",), 0), ("vocabulary", "a", ()))

    def test_letters_are_those_that_occur_in_alphabetical_order(self):
        self.same(trained(("zca", "", "bz"), 0), ("vocabulary", "abcz", ()))
        self.same(trained(("fedcba",), 3), ("vocabulary", "abcdef", ()))

    def test_of_equal_counts_the_least_pair(self):
        self.same(trained(("ba", "ba", "ab", "ab"), 1), ("vocabulary", "ab", ((1, 2),)))
        self.same(trained(("ba", "ba", "ab", "ab"), 2), ("vocabulary", "ab", ((1, 2), (2, 1))))
        self.same(trained(("bb", "bb", "ba", "ba"), 1), ("vocabulary", "ab", ((2, 1),)))
        self.same(trained(("ac", "ac", "ab", "ab", "bb"), 1), ("vocabulary", "abc", ((1, 2),)))

    def test_the_greatest_count_comes_before_the_least_pair(self):
        self.same(trained(("ab", "ab", "ba", "ba", "ba"), 1), ("vocabulary", "ab", ((2, 1),)))

    def test_overlapping_positions_count(self):
        # In "aaa" a is followed by a twice, so this is as often as in "ab", "ab".
        self.same(trained(("aaa", "bcb", "cb"), 1), ("vocabulary", "abc", ((1, 1),)))
        self.same(trained(("aaa",), 9), ("vocabulary", "a", ((1, 1),)))
        self.same(trained(("bbb", "ab", "ab"), 1), ("vocabulary", "ab", ((1, 2),)))
        self.same(trained(("bbbb", "ab", "ab"), 1), ("vocabulary", "ab", ((2, 2),)))
        self.same(trained(("bbbb", "ab", "ab"), 2), ("vocabulary", "ab", ((2, 2), (1, 2))))

    def test_counts_below_2_are_not_merged(self):
        self.same(trained(("ab", "ba", "bb", "aa"), 9), ("vocabulary", "ab", ()))
        self.same(trained(("ab", "ab"), 9), ("vocabulary", "ab", ((1, 2),)))

    def test_pairs_do_not_reach_over_the_end_of_a_text(self):
        self.same(trained(("a", "b", "a", "b"), 9), ("vocabulary", "ab", ()))
        self.same(trained(("ab", "", "", "b"), 9), ("vocabulary", "ab", ()))

    def test_at_most_n_merges_and_at_most_ten(self):
        text = "abcabdabcabeabcabdaf" * 3
        for n in range(11):
            self.assertEqual(len(trained((text,), n)[2]), n)
        for n in (11, 12, 100, 10 ** 39):
            self.same(trained((text,), n), trained((text,), 10))
        self.same(trained(("a" * 60,), 10 ** 39), trained_by_hand(("a" * 60,), 10))

    def test_each_number_of_merges_is_a_beginning_of_the_next(self):
        texts = ("abracadabra", "cadabra", "abra")
        for n in range(10):
            self.same(trained(texts, n)[2], trained(texts, n + 1)[2][:n])

    def test_a_joined_piece_that_is_already_a_piece(self):
        # Texts cannot bring this about, as the same letters always become the same tokens: so it is tried by rows.
        strings = ["", "a", "aa", "aaa"]
        self.same(next_merge([(1, 2), (1, 2), (2, 1), (2, 1)], strings), None)
        self.same(next_merge([(1, 2), (1, 2), (1, 2), (2, 2), (2, 2)], strings), (2, 2))
        self.same(next_merge([(1, 2), (1, 2), (1, 2), (2, 2)], strings), None)
        for many in range(1, 61):
            self.same(trained(("a" * many,), 10), trained_by_hand(("a" * many,), 10))
            texts = ("a" * many, "ba" * 9, "aaab" * 5)
            self.same(trained(texts, 10), trained_by_hand(texts, 10))

    def test_by_hand(self):
        source = random.Random(11)
        for many in range(400):
            letters = "cabfde"[:source.randint(1, 6)]
            texts = ["".join(source.choices(letters, k=source.randint(0, 60))) for _ in range(source.randint(0, 8))]
            texts = (*texts, letters[0])
            n = source.randint(0, 12)
            found = trained(texts, n)
            self.same(found, trained_by_hand(texts, n))
            self.assertIs(is_vocabulary(found), True)

    def test_beyond_the_limits(self):
        texts = ("abc" * 40,) * 10
        self.same(trained(texts, 4), trained_by_hand(texts, 4))


class Errors(Case):

    def test_wrong_texts(self):
        for texts in ((), ("",), ("", ""), ("abcdefg",), ("abc", "defg"), ("A",), ("a1",), ("a b",), ("ab\n",), ("\u00e9",),
                      ["ab"], "ab", None, True, 0, (1,), (True,), ("a", None), (("a",),), ("a", ["b"]), {"a": "b"}):
            self.fails(BadTexts, texts, trained, texts, 1)

    def test_wrong_numbers(self):
        for n in (-1, -(10 ** 39), True, False, None, "1", "", (), (1,), [1], {}):
            self.fails(BadNumber, n, trained, ("ab",), n)

    def test_texts_come_first(self):
        for texts in ([], None, (), ("A",), (["a"],)):
            for n in (-1, True, None, []):
                self.fails(BadTexts, texts, trained, texts, n)
        self.fails(BadTexts, "ab", trained, n=-1, texts="ab")
        self.fails(BadNumber, -1, trained, n=-1, texts=("ab",))

    def test_any_values(self):
        for thing in spoiled(("aab", "", "ab")):
            if are_right(thing):
                self.same(trained(thing, 3), trained_by_hand(thing, 3))
            else:
                self.fails(BadTexts, thing, trained, thing, None)
        for thing in ODD:
            if not is_int(thing) or thing < 0:
                self.fails(BadNumber, thing, trained, ("a",), thing)

    def test_right_ones_raise_nothing(self):
        self.same(trained(texts=("abcdef", ""), n=1), ("vocabulary", "abcdef", ()))
        self.same(trained(n=10 ** 39, texts=("abc", "def")), ("vocabulary", "abcdef", ()))


if __name__ == "__main__":
    unittest.main()
