"""Texts of vocabularies and models [12.1], and the line at which a wrong text goes wrong."""

import random
import unittest

import by_hand_journals
import drawn
from draftward.errors import BadLine, BadModel, BadVocabulary, DraftError
from draftward.traces import model_text, read_model, read_vocabulary, vocabulary_text
from samples import ODD, Case

LAST = ("window", 3, 1, (((), (1, 1, 1)), ((1,), (0, 1, 3))), (1, 2, 1))
BARE = ("window", 2, 0, (), (0, 1))
DEEP = ("window", 2, 3, (((), (1, 0)), ((0,), (0, 1)), ((0, 1), (2, 3)), ((0, 1, 1), (10, 20))), (1000, 0))
NONE = ("window", 3, 0, (((), (4, 5, 6)),), (1, 2, 1))
WINDOWS = (LAST, BARE, DEEP, NONE)
ONE = ((1,),)
NET = ("net", 2, 1, ((1,), (2,)), ((0,),), ((ONE, ONE, ((-3,),), ONE),), ((0,), (-1,)))
PLAIN = ("net", 3, 2, ((1, -1), (2, 0), (0, 5)), ((0, 0), (-4, 1), (1, 1)), (), ((0, 1), (1, 0), (-5, -5)))
TURN = ((0, 1), (-1, 0))
TALL = ("net", 2, 2, ((1, 2), (3, 4)), ((0, 0),), ((TURN, ((2, 3), (4, 5)), TURN, ((1, 1), (2, 2))), (TURN,) * 4),
        ((5, 6), (7, 8)))
NETS = (NET, PLAIN, TALL)
PAIRS = ("vocabulary", "ab", ((1, 2), (3, 1)))
VOCABULARIES = (PAIRS, ("vocabulary", "a", ()), ("vocabulary", "zyxabc", ()), ("vocabulary", "a", ((1, 1), (2, 2), (2, 1))))


class Reading(Case):

    def wrong(self, read, text, at):
        with self.assertRaises(DraftError) as caught:
            read(text)
        self.assertIs(type(caught.exception), BadLine, text)
        self.assertEqual(repr(caught.exception.at), repr(at), text)

    def check(self, read, text):
        """Check that the text is read, or refused at the very line, as by hand."""
        begins = by_hand_journals.model_begins if read is read_model else by_hand_journals.vocabulary_begins
        word, right = by_hand_journals.reading(begins, text)
        if word == "read":
            self.same(read(text), right)
        else:
            self.wrong(read, text, right)
        return word

    def bent(self, text):
        """Yield texts that differ from the text in one of their lines."""
        lines = text.split("\n")
        yield text + "\n"
        yield "\n" + text
        for at, line in enumerate(lines):
            before, after = lines[:at], lines[at + 1:]
            changed = [[], [line, line], ["", line], [line, ""], [line[:-1]], [line + " "], [" " + line], [line + " 1"]]
            changed.extend([other] for other in self.bent_lines(line))
            for other in changed:
                yield "\n".join(before + other + after)
            if after:
                yield "\n".join([*before, after[0], line, *after[1:]])
                yield "\n".join([*before, line + " " + after[0], *after[1:]])
            yield "\n".join(before)
            yield "\n".join([*before, line])
            yield "\n".join([*before, line]) + "\n"

    def bent_lines(self, line):
        yield from (line.replace(" ", "  ", 1), line.replace(" ", "\n", 1), line.upper(), line.replace(":", " :"))
        yield from (line.replace(":", ""), line.replace(":", "::"), line.replace(": ", ":"), line.replace(" ", ""))
        yield from (line.replace(" ", ": ", 1), line.replace(" ", " 0: ", 1), line.replace(":", ": 1:"))
        words = line.split(" ")
        for at in range(len(words)):
            for word in ("", "0", "-0", "+1", "01", "-01", "00", "-", "--1", "1", "2", "9", "-1", "99999", "1.0", "1_0", "a",
                         "1\t", "0x1", "ab", "aa", "after:", "after", "1:", ":", "query", "key", "worth", "mix", "out",
                         "place", "embed", "net", "window", "letters", "merge", words[at] + words[at], "9" * 39):
                yield " ".join([*words[:at], word, *words[at + 1:]])
            yield " ".join(words[:at] + words[at + 1:])
            yield " ".join(words[:at + 1])
            if at + 1 < len(words):
                yield " ".join([*words[:at], words[at + 1], words[at], *words[at + 2:]])


class Vocabularies(Reading):

    def test_that_of_the_document(self):
        self.same(vocabulary_text(("vocabulary", "ab", ((1, 2),))), "letters ab\nmerge 1 2")
        self.wrong(read_vocabulary, "letters ab\nmerge 1 9", 2)

    def test_texts(self):
        self.same(vocabulary_text(PAIRS), "letters ab\nmerge 1 2\nmerge 3 1")
        self.same(vocabulary_text(vocabulary=VOCABULARIES[1]), "letters a")
        self.same(read_vocabulary(text="letters zyxabc"), VOCABULARIES[2])

    def test_there_and_back(self):
        for vocabulary in VOCABULARIES:
            self.same(read_vocabulary(vocabulary_text(vocabulary)), vocabulary)
        letters = "bcdefa"
        full = ("vocabulary", letters, ((1, 1), *[(at, 1) for at in range(7, 16)]))
        self.same(read_vocabulary(vocabulary_text(full)), full)
        # Ten merges are all that a vocabulary can have.
        self.wrong(read_vocabulary, vocabulary_text(full) + "\nmerge 2 2", 12)

    def test_lines_that_go_wrong(self):
        for text, at in (("", 1), ("letters", 1), ("letters ", 1), ("letters ab ", 1), (" letters ab", 1), ("letters  ab", 1),
                         ("letters aa", 1), ("letters aB", 1), ("letters a1", 1), ("letters abcdefg", 1), ("letters a b", 1),
                         ("Letters ab", 1), ("merge 1 2", 1), ("letters ab\n", 2), ("letters ab\n\nmerge 1 2", 2),
                         ("letters ab\nmerge 0 1", 2), ("letters ab\nmerge 1 3", 2), ("letters ab\nmerge 1 2\nmerge 1 2", 3),
                         ("letters ab\nmerge 1 2\nmerge 3 4", 3), ("letters ab\nmerge 1", 2), ("letters ab\nmerge 1 2 1", 2),
                         ("letters ab\nmerge 1 02", 2), ("letters ab\nmerge +1 2", 2), ("letters ab\nmerge -1 2", 2),
                         ("letters ab\nmerge 1  2", 2), ("letters ab\nmerge 1 2\n", 3), ("letters ab\nmerge 1 2 \nmerge", 2),
                         ("letters aab\nmerge 1 9", 1), ("letters ab\nletters ab", 2), ("letters ab\nmerge 1 2\rmerge 3 1", 2)):
            self.wrong(read_vocabulary, text, at)

    def test_a_piece_that_is_there_already(self):
        # Both (1, 2) with 3 and 1 with (2, 3) stand for the same letters.
        text = "letters abc\nmerge 1 2\nmerge 4 3\nmerge 2 3\nmerge 1 6"
        self.wrong(read_vocabulary, text, 5)
        self.same(read_vocabulary(text[:-10]), ("vocabulary", "abc", ((1, 2), (4, 3), (2, 3))))

    def test_bent_texts(self):
        seen = {"read": 0, "bad": 0}
        for vocabulary in VOCABULARIES:
            for text in self.bent(vocabulary_text(vocabulary)):
                seen[self.check(read_vocabulary, text)] += 1
        self.assertGreater(min(seen.values()), 20)

    def test_values_that_are_no_strings(self):
        for thing in (*ODD, b"letters ab", ["letters ab"], ("letters ab",), PAIRS):
            if isinstance(thing, str):
                self.check(read_vocabulary, thing)
            else:
                self.wrong(read_vocabulary, thing, 0)

    def test_errors(self):
        for vocabulary in (*ODD, list(PAIRS), PAIRS[:2], ("vocabulary", "ab", ((True, 2),)), LAST):
            self.fails(BadVocabulary, vocabulary, vocabulary_text, vocabulary)


class Models(Reading):

    def test_those_of_the_document(self):
        self.same(model_text(LAST), "window 3 1\ndefault 1 2 1\nafter: 1 1 1\nafter 1: 0 1 3")
        self.same(read_model(model_text(LAST)), LAST)

    def test_texts_of_window_models(self):
        self.same(model_text(model=BARE), "window 2 0\ndefault 0 1")
        self.same(model_text(DEEP), "window 2 3\ndefault 1000 0\nafter: 1 0\nafter 0: 0 1\nafter 0 1: 2 3\nafter 0 1 1: 10 20")
        self.same(read_model(text="window 3 0\ndefault 1 2 1\nafter: 4 5 6"), NONE)

    def test_texts_of_networks(self):
        self.same(model_text(NET), "net 2 1\nembed 1\nembed 2\nplace 0\nquery 1\nkey 1\nworth -3\nmix 1\nout 0\nout -1")
        self.same(model_text(PLAIN), "net 3 2\nembed 1 -1\nembed 2 0\nembed 0 5\nplace 0 0\nplace -4 1\nplace 1 1\n"
                                     "out 0 1\nout 1 0\nout -5 -5")
        lines = model_text(TALL).split("\n")
        self.same([line.split(" ")[0] for line in lines], [
            "net", "embed", "embed", "place", *[word for word in ("query", "key", "worth", "mix") * 2 for _ in range(2)],
            "out", "out"])
        self.same(lines[4:12], ["query 0 1", "query -1 0", "key 2 3", "key 4 5", "worth 0 1", "worth -1 0", "mix 1 1", "mix 2 2"])

    def test_there_and_back(self):
        for model in (*WINDOWS, *NETS):
            self.same(read_model(model_text(model)), model)
        source = random.Random(121)
        for _ in range(300):
            model = drawn.some_model(source, source.randint(2, 8))
            self.same(read_model(model_text(model)), model)

    def test_beyond_the_limits(self):
        entries = tuple(((at, last), (at, 5000) + (0,) * 8) for at in range(10) for last in range(10))
        for model in (("window", 10, 2, entries, (10 ** 39,) * 10), ("window", 2, 10 ** 39, (), (1, 1)),
                      ("net", 9, 4, ((7, -7, 100, 0),) * 9, ((1,) * 4,) * 9, (((((-(10 ** 39),) * 4),) * 4,) * 4,) * 3,
                       ((0,) * 4,) * 9)):
            self.same(read_model(model_text(model)), model)

    def test_first_lines(self):
        for text in ("", "window", "window 3", "window 3 1 1", "window 1 0", "window 0 0", "window 3 -1", "window -3 1",
                     "window 03 1", "window 3 -0", "window +3 1", "window 3 1 ", " window 3 1", "window  3 1", "Window 3 1",
                     "windows 3 1", "default 1 2 1", "net", "net 2", "net 2 0", "net 1 1", "net 2 1 1", "net 2 -1", "net 02 1",
                     "net 2  1", "network 2 1", "3 1", "window 3 1:", "window 3,1", "\nwindow 3 1", "window 3 1\r"):
            self.wrong(read_model, text, 1)
            self.wrong(read_model, text + "\ndefault 1 2 1", 1)

    def test_only_more_lines_could_make_it_right(self):
        for text in ("window 3 1", "window 2 0", "window 10000000000000000000000 5", "net 2 1", "net 99999999999999999 1"):
            self.wrong(read_model, text, 2)
        for model in NETS:
            lines = model_text(model).split("\n")
            for many in range(1, len(lines)):
                self.wrong(read_model, "\n".join(lines[:many]), many + 1)
                # An empty line is no line of a model.
                self.wrong(read_model, "\n".join(lines[:many]) + "\n", many + 1)
        for model in WINDOWS:
            lines = model_text(model).split("\n")
            for many in range(2, len(lines) + 1):
                self.same(read_model("\n".join(lines[:many])), (*model[:3], model[3][:many - 2], model[4]))
                self.wrong(read_model, "\n".join(lines[:many]) + "\n", many + 1)

    def test_lines_of_window_models(self):
        begin = "window 3 1\ndefault 1 2 1\n"
        for line in ("default 1 2", "default 1 2 1 1", "default 0 0 0", "default 1 -2 1", "default 1 2 01", "default: 1 2 1",
                     "after: 1 2 1", "", "default", "default 1  2 1", "default 1 2 1 ", "default 1 2 -0", "default +1 2 1"):
            self.wrong(read_model, "window 3 1\n" + line + "\nafter: 1 1 1", 2)
        for line in ("after : 1 1 1", "after 1 : 1 1 1", "after:1 1 1", "after: 1 1", "after: 1 1 1 1", "after: 0 0 0", "after:",
                     "after 3: 1 1 1", "after -1: 1 1 1", "after 1 1: 1 1 1", "after 1:: 1 1 1", "after  1: 1 1 1",
                     "after 01: 1 1 1", "after -0: 1 1 1", "after 1:  1 1 1", "after 1: 1 1 1 ", "after 1", "After 1: 1 1 1",
                     "after: 1 1 -1", "after 1: 1: 1 1", "before 1: 1 1 1", "default 1 2 1", "", " ", "after 1 1 1 1"):
            self.wrong(read_model, begin + line, 3)
            self.wrong(read_model, begin + line + "\nafter 2: 1 1 1", 3)
            self.wrong(read_model, begin + "after: 1 1 1\n" + line, 4)

    def test_entries_in_order(self):
        begin = "window 3 2\ndefault 1 2 1\n"
        for lasts, at in (((": ", ": "), 4), ((" 1: ", ": "), 4), ((" 1: ", " 1: "), 4), ((" 2: ", " 1: "), 4),
                          ((": ", " 1: ", " 1 0: ", " 0: "), 6), ((" 1 0: ", " 1: "), 4), ((" 1 2: ", " 1 1: "), 4)):
            self.wrong(read_model, begin + "\n".join("after" + last + "1 1 1" for last in lasts), at)
        self.same(len(read_model(begin + "\n".join("after" + last + "1 1 1" for last in (": ", " 1: ", " 1 0: ", " 2: ")))[3]), 4)

    def test_lines_of_networks(self):
        lines = model_text(TALL).split("\n")
        for at in range(1, len(lines)):
            for other in ("", "embed 1", "embed 1 2 3", "place 1 1 ", "mix 1 01", lines[at] + " 0", lines[at][:-2], "net 2 2",
                          lines[at].replace(" ", "  "), lines[at].upper(), "layer", lines[at] + ":"):
                self.wrong(read_model, "\n".join([*lines[:at], other, *lines[at + 1:]]), at + 1)
        for at, word in ((1, "place 1 1"), (2, "out 1 1"), (3, "query 1 1"), (4, "key 1 1"), (5, "key 1 1"), (6, "query 1 1"),
                         (11, "out 1 1"), (12, "mix 1 1"), (13, "out 1 1"), (20, "embed 1 1"), (21, "query 1 1")):
            self.wrong(read_model, "\n".join([*lines[:at], word, *lines[at + 1:]]), at + 1)
        # Behind the last line nothing follows.
        self.wrong(read_model, "\n".join([*lines, "out 1 1"]), len(lines) + 1)
        # There may be more places, and no or more layers.
        self.same(len(read_model("\n".join([*lines[:4], *["place 1 1"] * 5, *lines[4:]]))[4]), 6)
        self.same(len(read_model("\n".join(lines[:4] + lines[20:]))[5]), 0)
        self.same(len(read_model("\n".join(lines[:20] + lines[4:20] + lines[20:]))[5]), 4)
        self.wrong(read_model, "\n".join(lines[:12] + ["place 1 1"] + lines[12:]), 13)

    def test_bent_texts(self):
        seen = {"read": 0, "bad": 0}
        for model in (*WINDOWS, *NETS):
            for text in self.bent(model_text(model)):
                seen[self.check(read_model, text)] += 1
        self.assertGreater(min(seen.values()), 200)

    def test_bent_texts_of_drawn_models(self):
        source = random.Random(122)
        for _ in range(60):
            texts = list(self.bent(model_text(drawn.some_model(source, source.randint(2, 4)))))
            for text in source.sample(texts, 60):
                self.check(read_model, text)

    def test_values_that_are_no_strings(self):
        for thing in (*ODD, b"window 2 0", [model_text(BARE)], (model_text(BARE),), BARE):
            if isinstance(thing, str):
                self.check(read_model, thing)
            else:
                self.wrong(read_model, thing, 0)

    def test_other_digits_and_blanks(self):
        for text in ("window 2 0\ndefault 1 " + chr(0x661), "window 2 0\ndefault 1 " + chr(0xb2), "window 2 0\ndefault 1" + chr(0xa0) + "1",
                     "window 2 0\ndefault 1\t1", "window 2 0\ndefault 1 1" + chr(0x2028) + "after: 1 1"):
            self.wrong(read_model, text, 2)

    def test_errors(self):
        for model in (*ODD, list(LAST), LAST[:4], ("window", 3, 1, (), (1, True, 1)), PAIRS, model_text(LAST)):
            self.fails(BadModel, model, model_text, model)


if __name__ == "__main__":
    unittest.main()
