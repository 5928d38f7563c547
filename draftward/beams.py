"""The best outcomes, and beams, which look for them among a few answers at a time."""

from draftward.kinds import same
from draftward.needs import need_number
from draftward.weights import PlainWeights, over_one
from draftward.writer import chances_by, drawn_on, need_asking


def best_outcomes(model, settings, prompt, most, number):
    """Return the pairs of so many best outcomes, or of all, and their chances, the best one first."""
    need_asking(model, settings, prompt, most)
    need_number(number, 1)
    found = chances_by(PlainWeights(model, settings, prompt), most)
    return tuple(_best_first(found)[:number])


def beam_outcome(model, settings, prompt, most, width):
    """Return the pair of the outcome of the beam, which keeps so many open answers, and its chance."""
    need_asking(model, settings, prompt, most)
    need_number(width, 1)
    return _found_by_beam(PlainWeights(model, settings, prompt), most, width)


def judge_beam(model, settings, prompt, most, width):
    """Return the certificate that tells whether the outcome of the beam is the best one."""
    need_asking(model, settings, prompt, most)
    need_number(width, 1)
    weights = PlainWeights(model, settings, prompt)
    best, _ = _best_first(chances_by(weights, most))[0]
    found, _ = _found_by_beam(weights, most, width)
    return ("best",) if found == best else ("missed", best)


def beam_holds(model, settings, prompt, most, width, thing):
    """Tell whether any value is the certificate for the beam."""
    return same(judge_beam(model, settings, prompt, most, width), thing)


def _found_by_beam(weights, most, width):
    """Return the pair of the outcome of the beam and its chance."""
    found = []
    going = [((), (1, 1))]
    length = 0
    while going and length < most:
        ended, longer = drawn_on(weights, going)
        found.extend(ended)
        going = _best_first(longer)[:width]
        length += 1
    found.extend([((answer, "most"), chance) for answer, chance in going])
    return _best_first(found)[0]


def _best_first(pairs):
    """Return the list of the pairs of things and their chances, the best thing first."""
    # Over one denominator chances are told apart by whole numbers.
    numbers, _ = over_one([chance for _, chance in pairs])
    ranked = sorted([(-number, thing, chance) for number, (thing, chance) in zip(numbers, pairs)])
    return [(thing, chance) for _, thing, chance in ranked]
