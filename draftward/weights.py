"""The weights by which answers are drawn: plain ones, and those that are bound or masked by a grammar.

Each object belongs to one prompt and remembers what it worked out, because rounds, and all outcomes of a request, come
back to the same answers again and again.
"""

from math import gcd, lcm

from draftward.models import next_row, rows_after
from draftward.settings import applied
from draftward.tokens import pieces_of


class PlainWeights:
    """The next weights of a model with settings, after a prompt and an answer."""

    def __init__(self, model, settings, prompt):
        self.model = model
        self.settings = settings
        self.prompt = prompt
        self.known = {}
        # For each answer the rows of all positions, and the weights of the model alone.
        rows = rows_after(model, prompt[:-1])
        row, weights = next_row(model, rows, prompt[-1])
        self.reached = {(): ((*rows, row), weights)}

    def after(self, answer):
        """Return the next weights after the answer."""
        if answer not in self.known:
            weights = self._model_weights(answer)
            self.known[answer] = applied(self.settings, weights, self.prompt + answer, len(answer))
        return self.known[answer]

    def _model_weights(self, answer):
        done = len(answer)
        while answer[:done] not in self.reached:
            done -= 1
        rows, weights = self.reached[answer[:done]]
        for at in range(done, len(answer)):
            row, weights = next_row(self.model, rows, answer[at])
            rows = (*rows, row)
            self.reached[answer[:at + 1]] = (rows, weights)
        return weights


class BoundWeights:
    """The bound weights after an answer, and the endings, for plain weights, a grammar and a greatest length."""

    def __init__(self, plain, vocabulary, grammar, most):
        self.plain = plain
        self.pieces = pieces_of(vocabulary)
        self.grammar = grammar
        self.most = most
        self.endings = {}

    def after(self, answer):
        """Return the bound weights after the answer, which has fewer than most tokens and an ending that is not 0."""
        numbers, _ = over_one(self._parts(answer))
        common = 0
        for number in numbers:
            common = gcd(common, number)
        return tuple([number // common for number in numbers])

    def ending(self, answer):
        """Return the chance that the plain writer comes from the answer to an outcome that fits."""
        if answer not in self.endings:
            self.endings[answer] = self._ending(answer)
        return self.endings[answer]

    def _ending(self, answer):
        state = self._state(answer)
        if state is None:
            return (0, 1)
        if len(answer) == self.most:
            return (1, 1) if state in self.grammar[3] else (0, 1)
        numbers, whole = over_one(self._parts(answer))
        return fraction(sum(numbers), whole * sum(self.plain.after(answer)))

    def _parts(self, answer):
        """Return for each next token the quotient that is its weight times the chance to fit in the end."""
        weights = self.plain.after(answer)
        fits = self._state(answer) in self.grammar[3]
        parts = [(weights[0] if fits else 0, 1)]
        for token in range(1, len(weights)):
            # The ending of an answer that never comes would be worked out in vain.
            n, d = self.ending((*answer, token)) if weights[token] > 0 else (0, 1)
            parts.append((weights[token] * n, d))
        return parts

    def _state(self, answer):
        return reached_state(self.grammar, "".join([self.pieces[token] for token in answer]))


class MaskWeights:
    """The next weights of those tokens alone whose bound weights are not 0."""

    def __init__(self, bound):
        self.bound = bound

    def after(self, answer):
        """Return the mask weights after the answer, which has fewer than most tokens and an ending that is not 0."""
        weights = self.bound.plain.after(answer)
        return tuple([weight if least > 0 else 0 for weight, least in zip(weights, self.bound.after(answer))])


def reached_state(grammar, text):
    """Return the state to which the text leads from the start of the grammar, or None."""
    _, _, state, _, moves = grammar
    table = {(source, letter): target for source, letter, target in moves}
    for letter in text:
        state = table.get((state, letter))
    return state


def fraction(n, d):
    """Return the quotient of n and d in lowest terms."""
    common = gcd(n, d)
    return (n // common, d // common)


def plus(one, other):
    """Return the sum of two fractions."""
    return fraction(one[0] * other[1] + other[0] * one[1], one[1] * other[1])


def times(one, other):
    """Return the product of two fractions."""
    return fraction(one[0] * other[0], one[1] * other[1])


def over_one(quotients):
    """Return the numerators of the quotients over their least common denominator, and this denominator."""
    whole = 1
    for _, d in quotients:
        whole = lcm(whole, d)
    return ([n * (whole // d) for n, d in quotients], whole)
