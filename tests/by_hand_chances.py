"""What the document promises of chances in its parts 6, 7, 9 and 11, worked out in other words than the program's."""

import functools
import itertools
import math
from fractions import Fraction

import by_hand


def token_ways(weights):
    """Yield (chance, token, totals) for all results of a draw by weights."""
    for token, weight in enumerate(weights):
        if weight:
            yield Fraction(weight, sum(weights)), token, (sum(weights),)


def tried_ways(token, p, q):
    """Yield (chance, kept, totals) for all results of trying a drafted token."""
    whole = sum(p) * q[token]
    keeping = min(whole, p[token] * sum(q))
    for many, kept in ((keeping, True), (whole - keeping, False)):
        if many:
            yield Fraction(many, whole), kept, (whole,)


def drafted_ways(q, answer, many):
    """Yield (chance, drafted tokens, totals) for all ways of drafting so many tokens in a row."""
    if many == 0:
        yield Fraction(1), (), ()
        return
    for chance, token, totals in token_ways(q(answer)):
        if token == 0:
            yield chance, (0,), totals
        else:
            for more, rest, others in drafted_ways(q, (*answer, token), many - 1):
                yield chance * more, (token, *rest), totals + others


def row_ways(p, q, n, most, answer):
    for chance, drafted, totals in drafted_ways(q, answer, min(n, most - len(answer))):
        for more, settled, others in trying_ways(p, q, most, answer, drafted):
            yield chance * more, settled, totals + others


def trying_ways(p, q, most, answer, drafted):
    """Yield (chance, settled, totals) for all ways of trying the drafted tokens in order."""
    if not drafted:
        if len(answer) == most:
            yield Fraction(1), (), ()
        else:
            for chance, token, totals in token_ways(p(answer)):
                yield chance, (token,), totals
        return
    for chance, kept, totals in tried_ways(drafted[0], p(answer), q(answer)):
        if not kept:
            for more, token, others in token_ways(by_hand.rest(p(answer), q(answer))):
                yield chance * more, (token,), totals + others
        elif drafted[0] == 0:
            yield chance, (0,), totals
        else:
            for more, settled, others in trying_ways(p, q, most, (*answer, drafted[0]), drafted[1:]):
                yield chance * more, (drafted[0], *settled), totals + others


def several_ways(weights, draft_weights, n):
    if n == 0:
        for chance, token, totals in token_ways(weights):
            yield chance, (token,), totals
        return
    for chance, token, totals in token_ways(draft_weights):
        for more, kept, others in tried_ways(token, weights, draft_weights):
            if kept:
                yield chance * more, (token,), totals + others
                continue
            behind = by_hand.rest(weights, draft_weights)
            for last, settled, further in several_ways(behind, draft_weights, n - 1):
                yield chance * more * last, settled, totals + others + further


def round_ways(p, q, plan, most, answer, number):
    """Yield (chance, settled with an end token, totals) for all ways of the round with this number."""
    if plan is None:
        for chance, token, totals in token_ways(p(answer)):
            yield chance, (token,), totals
        return
    word, n = plan[number % len(plan)]
    if word == "row":
        yield from row_ways(p, q, n, most, answer)
    else:
        yield from several_ways(p(answer), q(answer), n)


def all_runs(p, q, plan, most):
    """Return (chances, mean number of rounds, totals, reach) of all runs, worked out from the end to the beginning."""

    @functools.lru_cache(maxsize=None)
    def behind(answer, number):
        if len(answer) == most:
            return {(answer, "most"): Fraction(1)}, Fraction(0), frozenset(), 0
        chances, mean, whole, reach = {}, Fraction(1), set(), 0
        for chance, settled, totals in round_ways(p, q, plan, most, answer, number):
            whole.update(totals)
            if settled[-1] == 0:
                after = {(answer + settled[:-1], "end"): Fraction(1)}, Fraction(0), frozenset(), 0
            else:
                after = behind(answer + settled, number + 1)
            for outcome, more in after[0].items():
                chances[outcome] = chances.get(outcome, 0) + chance * more
            mean += chance * after[1]
            whole |= after[2]
            reach = max(reach, len(totals) + after[3])
        return chances, mean, frozenset(whole), reach

    chances, mean, totals, reach = behind((), 0)
    pairs = tuple((outcome, by_hand.pair(chances[outcome])) for outcome in sorted(chances))
    return pairs, by_hand.pair(mean), math.lcm(*totals), reach


def gain(p, q):
    """Return the sum of the chances that a token is drafted and kept, number by number of the draw of the try."""
    found = Fraction(0)
    for token, weight in enumerate(q):
        if weight:
            whole = sum(p) * weight
            kept = [number for number in range(whole) if number < p[token] * sum(q)]
            found += Fraction(weight, sum(q)) * Fraction(len(kept), whole)
    return by_hand.pair(found)


def masked(after, vocabulary, grammar, most):
    """Return the function that gives the mask weights [7.3] after an answer, of which something that fits can come."""

    def masked_after(answer):
        weights = list(after(answer))
        for token in range(len(weights)):
            if token == 0:
                can = by_hand.fits(vocabulary, grammar, answer)
            else:
                can = by_hand.ending(after, vocabulary, grammar, most, (*answer, token)) > 0
            if not can:
                weights[token] = 0
        return weights

    return masked_after


def fitting(after, vocabulary, grammar, many, most):
    """Return the pairs of the outcomes that fit and can come, and of their plain chances."""
    found = [(outcome, by_hand.chance(after, outcome)) for outcome in by_hand.outcomes(many, most)]
    return [(outcome, worth) for outcome, worth in found if worth and by_hand.fits(vocabulary, grammar, outcome[0])]


def mask_certificate(after, vocabulary, grammar, many, most):
    """Return the certificate for the mask [7.4]."""
    weights = masked(after, vocabulary, grammar, most)
    right = fitting(after, vocabulary, grammar, many, most)
    whole = sum(worth for _, worth in right)
    if all(by_hand.chance(weights, outcome) == worth / whole for outcome, worth in right):
        return ("exact",)
    quotients = [by_hand.chance(weights, outcome) / worth for outcome, worth in right]
    other = min(at for at, quotient in enumerate(quotients) if quotient != quotients[0])
    return ("unlike", right[0][0], right[other][0])


def ranked(pairs):
    """Return the pairs of things and chances, the best one first [9.1]."""
    best = []
    for thing, worth in pairs:
        before = [k for k, (other, chance) in enumerate(best) if chance > worth or (chance == worth and other < thing)]
        best.insert(len(before), (thing, worth))
    return best


def all_outcomes(after, many, most):
    """Return all outcomes that can come with their chances, the best one first."""
    found = [(outcome, by_hand.chance(after, outcome)) for outcome in by_hand.outcomes(many, most)]
    return ranked([(outcome, worth) for outcome, worth in found if worth])


def beam(after, many, most, width):
    """Return the pair of the outcome of a beam [9.2] and its chance."""
    going, found = [()], []
    for length in range(most):
        longer = []
        for answer in going:
            if after(answer)[0]:
                found.append((answer, "end"))
            longer.extend((*answer, token) for token in range(1, many) if after(answer)[token])
        # An open answer has the chance of the draws of its tokens, as an outcome by "most" has.
        going = [answer for answer, _ in ranked([(answer, by_hand.chance(after, (answer, "most"))) for answer in longer])]
        going = going[:width]
    found.extend((answer, "most") for answer in going)
    return ranked([(outcome, by_hand.chance(after, outcome)) for outcome in found])[0]


def counted(p, q, plan, most, base, length):
    """Return the pairs of outcomes and numbers of tapes [11.2], tape by tape."""
    many = {}
    for tape in itertools.product(range(base), repeat=length):
        draws = by_hand.Draws(tape)
        answer, reason, number = (), "most" if most == 0 else None, 0
        while reason is None:
            settled, reason = by_hand.round_of(p, q, plan, most, answer, draws, number)
            answer += settled
            number += 1
        many[answer, reason] = many.get((answer, reason), 0) + 1
    return tuple(sorted(many.items()))
