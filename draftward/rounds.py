"""Draws from a tape, and the rounds in which an answer is written, with drafts or without."""

from draftward.weights import PlainWeights


class TapeReader:
    """A tape, and how many of its integers were used."""

    def __init__(self, tape, used):
        self.tape = tape
        self.used = used

    def below(self, whole):
        """Draw a number below the whole."""
        found = self.tape[self.used] if self.used < len(self.tape) else 0
        self.used += 1
        return found % whole

    def token_by(self, weights):
        """Draw a token by the weights."""
        number = self.below(sum(weights))
        token = 0
        while number >= weights[token]:
            number -= weights[token]
            token += 1
        return token

    def keeps(self, token, weights, draft_weights):
        """Try a token, which was drafted by the draft weights, against the weights: tell whether it is kept."""
        number = self.below(sum(weights) * draft_weights[token])
        return number < weights[token] * sum(draft_weights)


class Rounds:
    """The rounds in which an answer of at most so many tokens is written by some weights, with a drafting or None."""

    def __init__(self, weights, drafting, prompt, most):
        self.weights = weights
        self.most = most
        self.draft = None
        self.plan = None
        if drafting is not None:
            draft, draft_settings, self.plan = drafting
            self.draft = PlainWeights(draft, draft_settings, prompt)

    def play(self, answer, number, reader):
        """Do the round with this number after the answer: return the pair of the settled tokens and the reason."""
        settled = self._settled(answer, number, reader)
        if settled[-1] == 0:
            return (settled[:-1], "end")
        return (settled, "most" if len(answer) + len(settled) == self.most else None)

    def _settled(self, answer, number, reader):
        """Return the tokens that the round settles, with the end token if it is one of them."""
        if self.plan is None:
            return (reader.token_by(self.weights.after(answer)),)
        word, n = self.plan[number % len(self.plan)]
        if word == "row":
            return self._settled_in_row(answer, n, reader)
        return (self._one_of_several(answer, n, reader),)

    def _settled_in_row(self, answer, n, reader):
        settled = ()
        for token in self._drafted(answer, n, reader):
            # Weights are asked for no earlier: behind a token that was dropped there may be no bound weights.
            weights = self.weights.after(answer + settled)
            draft_weights = self.draft.after(answer + settled)
            if not reader.keeps(token, weights, draft_weights):
                return (*settled, reader.token_by(rest_of(weights, draft_weights)))
            settled = (*settled, token)
        if settled[-1] == 0 or len(answer) + len(settled) == self.most:
            return settled
        return (*settled, reader.token_by(self.weights.after(answer + settled)))

    def _drafted(self, answer, n, reader):
        drafted = ()
        lacking = self.most - len(answer)
        while len(drafted) < min(n, lacking) and 0 not in drafted:
            drafted = (*drafted, reader.token_by(self.draft.after(answer + drafted)))
        return drafted

    def _one_of_several(self, answer, n, reader):
        weights = self.weights.after(answer)
        draft_weights = self.draft.after(answer)
        for _ in range(n):
            token = reader.token_by(draft_weights)
            if reader.keeps(token, weights, draft_weights):
                return token
            weights = rest_of(weights, draft_weights)
        return reader.token_by(weights)


def rest_of(weights, draft_weights):
    """Return the rest of the weights against the draft weights, both of which are known to be right."""
    whole = sum(weights)
    draft_whole = sum(draft_weights)
    return tuple([max(0, p * draft_whole - q * whole) for p, q in zip(weights, draft_weights)])


def played_out(rounds, tape):
    """Return the list of the pairs (answer, used) before each round, then the outcome, and what was used in the end."""
    reader = TapeReader(tape, 0)
    before = []
    answer = ()
    reason = "most" if rounds.most == 0 else None
    while reason is None:
        before.append((answer, reader.used))
        settled, reason = rounds.play(answer, len(before) - 1, reader)
        answer = answer + settled
    return (before, (answer, reason), reader.used)
