"""Answers that are bound by grammars, and requests."""

from draftward.errors import BadAnswer, BadGrammar, BadRequest, BadSize, BadText, NoFit
from draftward.drafts import is_drafting_for, need_answer_to_go_on, need_drafting, played_round, written
from draftward.kinds import are_open_tokens, are_small_letters, is_ascending, is_integer_from, is_number_below
from draftward.kinds import is_tape, is_tuple_of, same
from draftward.needs import is_prompt, need_model, need_number, need_prompt, need_settings, need_tape
from draftward.needs import need_vocabulary
from draftward.rounds import Rounds
from draftward.settings import are_steps
from draftward.tokens import size
from draftward.weights import BoundWeights, MaskWeights, PlainWeights, fraction, reached_state
from draftward.writer import chances_by, written_by

MOST_TOKENS = 40
MOST_ANSWERS = 200


def is_grammar(thing):
    """Tell whether any value is a grammar."""
    if not is_tuple_of(thing, 5) or thing[0] != "grammar":
        return False
    _, states, start, finals, moves = thing
    if not (is_integer_from(states, 1) and is_number_below(start, states)):
        return False
    if not isinstance(finals, tuple) or not all(is_number_below(state, states) for state in finals):
        return False
    if not isinstance(moves, tuple) or not all(_is_move(move, states) for move in moves):
        return False
    return is_ascending(finals) and is_ascending([(source, letter) for source, letter, _ in moves])


def state_after(grammar, text):
    """Return the state to which the text leads from the start, or None."""
    _need_grammar(grammar)
    if not are_small_letters(text):
        raise BadText(text)
    return reached_state(grammar, text)


def ending(model, settings, vocabulary, grammar, prompt, most, answer):
    """Return the chance that the plain writer comes from the answer to an outcome that fits."""
    _need_bound_asking(model, settings, vocabulary, grammar, prompt, most)
    bound = _bound_for(model, settings, vocabulary, grammar, prompt, most)
    if not are_open_tokens(answer, model[1]) or len(answer) > most:
        raise BadAnswer(answer)
    return bound.ending(answer)


def bound_weights(model, settings, vocabulary, grammar, prompt, most, answer):
    """Return the bound weights after the answer."""
    _need_bound_asking(model, settings, vocabulary, grammar, prompt, most)
    bound = _bound_for(model, settings, vocabulary, grammar, prompt, most)
    need_answer_to_go_on(model, most, answer)
    _need_fit(bound, answer)
    return bound.after(answer)


def mask_weights(model, settings, vocabulary, grammar, prompt, most, answer):
    """Return the next weights after the answer of those tokens alone that can still lead to an outcome that fits."""
    _need_bound_asking(model, settings, vocabulary, grammar, prompt, most)
    bound = _bound_for(model, settings, vocabulary, grammar, prompt, most)
    need_answer_to_go_on(model, most, answer)
    _need_fit(bound, answer)
    return MaskWeights(bound).after(answer)


def write_bound(model, settings, vocabulary, grammar, prompt, most, drafting, tape):
    """Return what write_drafted returns, but with the bound weights."""
    _need_bound_asking(model, settings, vocabulary, grammar, prompt, most)
    need_drafting(model, drafting)
    need_tape(tape)
    bound = _fitting_for(model, settings, vocabulary, grammar, prompt, most)
    return written(Rounds(bound, drafting, prompt, most), tape)


def write_masked(model, settings, vocabulary, grammar, prompt, most, tape):
    """Return the answer of the masked writer, the reason why it ends, and the number of draws."""
    _need_bound_asking(model, settings, vocabulary, grammar, prompt, most)
    need_tape(tape)
    bound = _fitting_for(model, settings, vocabulary, grammar, prompt, most)
    return written_by(MaskWeights(bound), most, tape)


def round_bound(model, settings, vocabulary, grammar, prompt, most, drafting, answer, tape, used, number):
    """Return what the round with this number returns, as round_of does, but with the bound weights."""
    _need_bound_asking(model, settings, vocabulary, grammar, prompt, most)
    need_drafting(model, drafting)
    need_answer_to_go_on(model, most, answer)
    need_tape(tape)
    need_number(used, 0)
    need_number(number, 0)
    bound = _fitting_for(model, settings, vocabulary, grammar, prompt, most)
    _need_fit(bound, answer)
    return played_round(Rounds(bound, drafting, prompt, most), answer, tape, used, number)


def bound_chances(model, settings, vocabulary, grammar, prompt, most):
    """Return the pairs of the outcomes of the bound writer and their chances, in ascending order."""
    _need_bound_asking(model, settings, vocabulary, grammar, prompt, most)
    return chances_by(_fitting_for(model, settings, vocabulary, grammar, prompt, most), most)


def masked_chances(model, settings, vocabulary, grammar, prompt, most):
    """Return the pairs of the outcomes of the masked writer and their chances, in ascending order."""
    _need_bound_asking(model, settings, vocabulary, grammar, prompt, most)
    return chances_by(MaskWeights(_fitting_for(model, settings, vocabulary, grammar, prompt, most)), most)


def judge_mask(model, settings, vocabulary, grammar, prompt, most):
    """Return the certificate that tells whether the masked writer has the chances of the bound writer."""
    _need_bound_asking(model, settings, vocabulary, grammar, prompt, most)
    return _mask_certificate(_fitting_for(model, settings, vocabulary, grammar, prompt, most))


def mask_holds(model, settings, vocabulary, grammar, prompt, most, thing):
    """Tell whether any value is the certificate for the mask."""
    _need_bound_asking(model, settings, vocabulary, grammar, prompt, most)
    bound = _bound_for(model, settings, vocabulary, grammar, prompt, most)
    return bound.ending(()) != (0, 1) and same(_mask_certificate(bound), thing)


def is_request(model, vocabulary, thing):
    """Tell whether any value is a request that fits the model and the vocabulary, or None in its place."""
    need_model(model)
    _need_vocabulary_or_none(vocabulary)
    return is_fitting_request(model, vocabulary, thing)


def alone(model, vocabulary, request):
    """Return the answer of the request, the reason, how much tape is used, and the number of rounds."""
    need_model(model)
    _need_vocabulary_or_none(vocabulary)
    if not is_fitting_request(model, vocabulary, request):
        raise BadRequest(request)
    return written(rounds_for(model, vocabulary, request), request[6])


def is_fitting_request(model, vocabulary, thing):
    """Tell whether thing is a request for the model and the vocabulary or None, which are known to be right."""
    if not is_tuple_of(thing, 7) or thing[0] != "request":
        return False
    _, prompt, most, settings, drafting, grammar, tape = thing
    if not is_prompt(model, prompt) or not is_integer_from(most, 1) or most > MOST_TOKENS:
        return False
    if not are_steps(settings, model[1]) or not is_tape(tape):
        return False
    if drafting is not None and not is_drafting_for(drafting, model[1]):
        return False
    return grammar is None or _is_bound_well(model, vocabulary, thing)


def rounds_for(model, vocabulary, request):
    """Return the rounds of the request, which is known to fit."""
    _, prompt, most, settings, drafting, grammar, _ = request
    weights = PlainWeights(model, settings, prompt)
    if grammar is not None:
        weights = BoundWeights(weights, vocabulary, grammar, most)
    return Rounds(weights, drafting, prompt, most)


def _is_bound_well(model, vocabulary, request):
    """Tell whether the request, in which all but the grammar is right, has a grammar that some outcome fits."""
    _, prompt, most, settings, _, grammar, _ = request
    if vocabulary is None or size(vocabulary) != model[1] or not is_grammar(grammar):
        return False
    if _count_of_answers(model, most) > MOST_ANSWERS:
        return False
    bound = BoundWeights(PlainWeights(model, settings, prompt), vocabulary, grammar, most)
    return bound.ending(()) != (0, 1)


def _count_of_answers(model, most):
    """Return how many answers of the greatest length there are."""
    many = 1
    for _ in range(most):
        many *= model[1] - 1
    return many


def _need_bound_asking(model, settings, vocabulary, grammar, prompt, most):
    need_model(model)
    need_settings(model, settings)
    need_vocabulary(vocabulary)
    _need_grammar(grammar)
    need_prompt(model, prompt)
    need_number(most, 0)


def _bound_for(model, settings, vocabulary, grammar, prompt, most):
    """Return the bound weights for these values, each of them right, or raise BadSize."""
    if size(vocabulary) != model[1]:
        raise BadSize(vocabulary)
    return BoundWeights(PlainWeights(model, settings, prompt), vocabulary, grammar, most)


def _fitting_for(model, settings, vocabulary, grammar, prompt, most):
    """Return the bound weights for these values, each of them right, or raise BadSize or NoFit."""
    bound = _bound_for(model, settings, vocabulary, grammar, prompt, most)
    _need_fit(bound, ())
    return bound


def _mask_certificate(bound):
    """Return the certificate for the mask, for bound weights with an ending of () that is not 0."""
    masked = dict(chances_by(MaskWeights(bound), bound.most))
    one = None
    quotient = None
    for outcome, (n, d) in chances_by(bound, bound.most):
        # The bound chance is the plain one times a number that is the same for all, so it tells the same.
        n_masked, d_masked = masked[outcome]
        found = fraction(n_masked * d, d_masked * n)
        if one is None:
            one = outcome
            quotient = found
        elif found != quotient:
            return ("unlike", one, outcome)
    return ("exact",)


def _need_vocabulary_or_none(vocabulary):
    if vocabulary is not None:
        need_vocabulary(vocabulary)


def _need_grammar(grammar):
    if not is_grammar(grammar):
        raise BadGrammar(grammar)


def _need_fit(bound, answer):
    if bound.ending(answer) == (0, 1):
        raise NoFit()


def _is_move(thing, states):
    if not is_tuple_of(thing, 3):
        return False
    source, letter, target = thing
    if not (is_number_below(source, states) and is_number_below(target, states)):
        return False
    return are_small_letters(letter) and len(letter) == 1
