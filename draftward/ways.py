"""All ways in which rounds can go: each draw takes each of its results in turn, not the one that a tape tells."""

from math import lcm

from draftward.weights import fraction, plus, times


class Way:
    """One way of a round, which is read in the place of a tape.

    It takes the results that are given, one for each draw, and behind them the first result that can come.
    """

    def __init__(self, results):
        self.results = results
        # For each draw the tuple that tells with how many of its numbers each result comes.
        self.draws = []

    def token_by(self, weights):
        """Draw a token by the weights."""
        return self._result(weights)

    def keeps(self, token, weights, draft_weights):
        """Try a token, which was drafted by the draft weights, against the weights: tell whether it is kept."""
        whole = sum(weights) * draft_weights[token]
        kept = min(whole, weights[token] * sum(draft_weights))
        return self._result((kept, whole - kept)) == 0

    def following(self):
        """Return the next way, which begins as this one does for as long as possible, or None."""
        for at in reversed(range(len(self.draws))):
            later = _first_that_comes(self.draws[at], self.results[at] + 1)
            if later is not None:
                return Way([*self.results[:at], later])
        return None

    def chance(self):
        """Return the chance that all draws have their results."""
        n = 1
        d = 1
        for widths, result in zip(self.draws, self.results):
            n *= widths[result]
            d *= sum(widths)
        return fraction(n, d)

    def period(self):
        """Return the least number that all numbers below which a draw was made divide."""
        found = 1
        for widths in self.draws:
            found = lcm(found, sum(widths))
        return found

    def _result(self, widths):
        at = len(self.draws)
        self.draws.append(widths)
        if at == len(self.results):
            self.results.append(_first_that_comes(widths, 0))
        return self.results[at]


class AllRuns:
    """All runs of some rounds together, each draw below W giving each of its W numbers with the same chance."""

    def __init__(self, rounds):
        self.rounds = rounds
        # For each outcome the pair of its chance and of the greatest number of draws with which it comes.
        self.outcomes = {}
        self.mean = (0, 1)
        self.whole = 1
        if rounds.most == 0:
            self.outcomes[((), "most")] = ((1, 1), 0)
        else:
            self._follow()

    def chances(self):
        """Return the ascending tuple of the pairs of the outcomes and their chances."""
        return tuple(sorted([(outcome, chance) for outcome, (chance, _) in self.outcomes.items()]))

    def most_draws(self):
        """Return the greatest number of draws of a run."""
        return max([draws for _, draws in self.outcomes.values()])

    def _follow(self):
        going = {(): ((1, 1), 0)}
        number = 0
        while going:
            # A run has as many rounds as there are round numbers at which it still goes on.
            for chance, _ in going.values():
                self.mean = plus(self.mean, chance)
            going = self._after_round(going, number)
            number += 1

    def _after_round(self, going, number):
        """Return what the answers that go on come to by the round with this number, as far as they go on then."""
        longer = {}
        for answer, (chance, draws) in going.items():
            for way, settled, reason in _ways_of(self.rounds, answer, number):
                self.whole = lcm(self.whole, way.period())
                after = (times(chance, way.chance()), draws + len(way.draws))
                if reason is None:
                    _note(longer, answer + settled, after)
                else:
                    _note(self.outcomes, (answer + settled, reason), after)
        return longer


def _ways_of(rounds, answer, number):
    """Return for each way of the round the triple of it, of the settled tokens and of the reason."""
    found = []
    way = Way([])
    while way is not None:
        found.append((way, *rounds.play(answer, number, way)))
        way = way.following()
    return found


def _note(table, key, after):
    """Add runs with their chance and their number of draws to those that come to the key."""
    chance, draws = table.get(key, ((0, 1), 0))
    table[key] = (plus(chance, after[0]), max(draws, after[1]))


def _first_that_comes(widths, begin):
    """Return the first result from begin on that can come, or None."""
    for result in range(begin, len(widths)):
        if widths[result] > 0:
            return result
    return None
