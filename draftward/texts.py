"""The lines of the texts of vocabularies and models: how they are written, and how they are read."""

from draftward.errors import BadLine
from draftward.models import is_model
from draftward.tokens import is_vocabulary

LAYER_WORDS = ("query", "key", "worth", "mix")


class LineReader:
    """The lines of a text, which are read one after the other.

    A line is judged as soon as it is read, so that the error tells the first one that cannot stand where it does.
    """

    def __init__(self, text):
        self.lines = text.split("\n")
        self.done = 0

    def has_more(self):
        """Tell whether there is a line that was not read."""
        return self.done < len(self.lines)

    def follows(self, word):
        """Tell whether there is a next line and it begins with the word."""
        return self.has_more() and self.lines[self.done].split(" ")[0] == word

    def check(self, holds):
        """Raise BadLine with the number of the line that was read last if something does not hold of it."""
        if not holds:
            raise BadLine(self.done)

    def word_behind(self, word):
        """Read a line that consists of the word and of another one: return this one."""
        words = self._next_line().split(" ")
        self.check(len(words) == 2 and words[0] == word)
        return words[1]

    def integers(self, word, many):
        """Read a line that consists of the word and of so many integers: return the tuple of these."""
        words = self._next_line().split(" ")
        self.check(words[0] == word and len(words) == many + 1)
        return self._integers_of(words[1:])

    def vectors(self, word, many, width):
        """Read so many lines, each of the word and of so many integers as the width tells."""
        return tuple([self.integers(word, width) for _ in range(many)])

    def entry(self):
        """Read a line of an entry: return the pair of its last tokens and its weights."""
        # Without a colon the weights are an empty word, which is no integer.
        head, _, weights = self._next_line().partition(": ")
        words = head.split(" ")
        self.check(words[0] == "after")
        return (self._integers_of(words[1:]), self._integers_of(weights.split(" ")))

    def finish(self):
        """Raise BadLine if there is a line that was not read."""
        if self.has_more():
            raise BadLine(self.done + 1)

    def _next_line(self):
        self.done += 1
        self.check(self.done <= len(self.lines))
        return self.lines[self.done - 1]

    def _integers_of(self, words):
        self.check(all([_is_integer_word(word) for word in words]))
        return tuple([int(word) for word in words])


def lines_of_vocabulary(vocabulary):
    """Return the lines of the text of the vocabulary."""
    _, letters, merges = vocabulary
    return ["letters " + letters, *[_line("merge", merge) for merge in merges]]


def lines_of_model(model):
    """Return the lines of the text of the model."""
    if model[0] == "net":
        return _lines_of_network(model)
    _, many, k, entries, default = model
    lines = [_line("window", (many, k)), _line("default", default)]
    for last, weights in entries:
        lines.append(_line(_line("after", last) + ":", weights))
    return lines


def vocabulary_of(lines):
    """Return the vocabulary whose lines are read."""
    letters = lines.word_behind("letters")
    vocabulary = ("vocabulary", letters, ())
    lines.check(is_vocabulary(vocabulary))
    while lines.has_more():
        merge = lines.integers("merge", 2)
        vocabulary = ("vocabulary", letters, (*vocabulary[2], merge))
        lines.check(is_vocabulary(vocabulary))
    return vocabulary


def model_of(lines):
    """Return the model whose lines are read."""
    if lines.follows("net"):
        many, width = lines.integers("net", 2)
        lines.check(many >= 2 and width >= 1)
        return _network_of(lines, many, width)
    many, k = lines.integers("window", 2)
    lines.check(many >= 2 and k >= 0)
    return _window_of(lines, many, k)


def _window_of(lines, many, k):
    default = lines.integers("default", many)
    model = ("window", many, k, (), default)
    lines.check(is_model(model))
    while lines.has_more():
        entry = lines.entry()
        model = ("window", many, k, (*model[3], entry), default)
        lines.check(is_model(model))
    return model


def _network_of(lines, many, width):
    embeds = lines.vectors("embed", many, width)
    places = [lines.integers("place", width)]
    while lines.follows("place"):
        places.append(lines.integers("place", width))
    layers = []
    while lines.follows(LAYER_WORDS[0]):
        layers.append(tuple([lines.vectors(word, width, width) for word in LAYER_WORDS]))
    outs = lines.vectors("out", many, width)
    lines.finish()
    return ("net", many, width, embeds, tuple(places), tuple(layers), outs)


def _lines_of_network(model):
    _, many, width, embeds, places, layers, outs = model
    lines = [_line("net", (many, width))]
    lines.extend([_line("embed", vector) for vector in embeds])
    lines.extend([_line("place", vector) for vector in places])
    for layer in layers:
        for word, matrix in zip(LAYER_WORDS, layer):
            lines.extend([_line(word, row) for row in matrix])
    lines.extend([_line("out", vector) for vector in outs])
    return lines


def _line(word, numbers):
    return " ".join([word, *[str(number) for number in numbers]])


def _is_integer_word(word):
    """Tell whether the word is an integer as it is written in texts: one integer has one word alone."""
    if word == "0":
        return True
    digits = word.removeprefix("-")
    if digits == "" or digits[0] == "0":
        return False
    return all(["0" <= digit <= "9" for digit in digits])
