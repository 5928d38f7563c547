"""Answers that are bound by grammars, and requests."""

from draftward.errors import BadAnswer, BadGrammar, BadRequest, BadSize, BadText, NoFit
from draftward.drafts import is_drafting_for, need_answer_to_go_on, need_drafting, played_round
from draftward.kinds import are_open_tokens, are_small_letters, is_ascending, is_integer_from, is_number_below
from draftward.kinds import is_tape, is_tuple_of
from draftward.needs import is_prompt, need_model, need_number, need_prompt, need_settings, need_tape
from draftward.needs import need_vocabulary
from draftward.rounds import Rounds, played_out
from draftward.settings import are_steps
from draftward.tokens import size
from draftward.weights import BoundWeights, PlainWeights, reached_state

MOST_TOKENS = 40
MOST_ANSWERS = 200


def is_grammar(thing):
    """Tell whether any value is a grammar."""
    if not is_tuple_of(thing, 5) or thing[0] != "grammar":
        return False
    _, states, start, finals, moves = thing
    if not (is_integer_from(states, 1) and is_number_below(start, states)):
        return False
    if not isinstance(finals, tuple) or not all(is_number_below(state, states) for state in finals):
        return False
    if not isinstance(moves, tuple) or not all(_is_move(move, states) for move in moves):
        return False
    return is_ascending(finals) and is_ascending([(source, letter) for source, letter, _ in moves])


def state_after(grammar, text):
    """Return the state to which the text leads from the start, or None."""
    _need_grammar(grammar)
    if not are_small_letters(text):
        raise BadText(text)
    return reached_state(grammar, text)


def ending(model, settings, vocabulary, grammar, prompt, most, answer):
    """Return the chance that the plain writer comes from the answer to an outcome that fits."""
    _need_bound_asking(model, settings, vocabulary, grammar, prompt, most)
    _need_size(model, vocabulary)
    if not are_open_tokens(answer, model[1]) or len(answer) > most:
        raise BadAnswer(answer)
    return BoundWeights(PlainWeights(model, settings, prompt), vocabulary, grammar, most).ending(answer)


def bound_weights(model, settings, vocabulary, grammar, prompt, most, answer):
    """Return the bound weights after the answer."""
    _need_bound_asking(model, settings, vocabulary, grammar, prompt, most)
    _need_size(model, vocabulary)
    need_answer_to_go_on(model, most, answer)
    bound = BoundWeights(PlainWeights(model, settings, prompt), vocabulary, grammar, most)
    _need_fit(bound, answer)
    return bound.after(answer)


def round_bound(model, settings, vocabulary, grammar, prompt, most, drafting, answer, tape, used, number):
    """Return what the round with this number returns, as round_of does, but with the bound weights."""
    _need_bound_asking(model, settings, vocabulary, grammar, prompt, most)
    need_drafting(model, drafting)
    need_answer_to_go_on(model, most, answer)
    need_tape(tape)
    need_number(used, 0)
    need_number(number, 0)
    _need_size(model, vocabulary)
    bound = BoundWeights(PlainWeights(model, settings, prompt), vocabulary, grammar, most)
    _need_fit(bound, ())
    _need_fit(bound, answer)
    return played_round(Rounds(bound, drafting, prompt, most), answer, tape, used, number)


def is_request(model, vocabulary, thing):
    """Tell whether any value is a request that fits the model and the vocabulary, or None in its place."""
    need_model(model)
    _need_vocabulary_or_none(vocabulary)
    return is_fitting_request(model, vocabulary, thing)


def alone(model, vocabulary, request):
    """Return the answer of the request, the reason, how much tape is used, and the number of rounds."""
    need_model(model)
    _need_vocabulary_or_none(vocabulary)
    if not is_fitting_request(model, vocabulary, request):
        raise BadRequest(request)
    before, (answer, reason), used = played_out(rounds_for(model, vocabulary, request), request[6])
    return (answer, reason, used, len(before))


def is_fitting_request(model, vocabulary, thing):
    """Tell whether thing is a request for the model and the vocabulary or None, which are known to be right."""
    if not is_tuple_of(thing, 7) or thing[0] != "request":
        return False
    _, prompt, most, settings, drafting, grammar, tape = thing
    if not is_prompt(model, prompt) or not is_integer_from(most, 1) or most > MOST_TOKENS:
        return False
    if not are_steps(settings, model[1]) or not is_tape(tape):
        return False
    if drafting is not None and not is_drafting_for(drafting, model[1]):
        return False
    return grammar is None or _is_bound_well(model, vocabulary, thing)


def rounds_for(model, vocabulary, request):
    """Return the rounds of the request, which is known to fit."""
    _, prompt, most, settings, drafting, grammar, _ = request
    weights = PlainWeights(model, settings, prompt)
    if grammar is not None:
        weights = BoundWeights(weights, vocabulary, grammar, most)
    return Rounds(weights, drafting, prompt, most)


def _is_bound_well(model, vocabulary, request):
    """Tell whether the request, in which all but the grammar is right, has a grammar that some outcome fits."""
    _, prompt, most, settings, _, grammar, _ = request
    if vocabulary is None or size(vocabulary) != model[1] or not is_grammar(grammar):
        return False
    if _count_of_answers(model, most) > MOST_ANSWERS:
        return False
    bound = BoundWeights(PlainWeights(model, settings, prompt), vocabulary, grammar, most)
    return bound.ending(()) != (0, 1)


def _count_of_answers(model, most):
    """Return how many answers of the greatest length there are."""
    many = 1
    for _ in range(most):
        many *= model[1] - 1
    return many


def _need_bound_asking(model, settings, vocabulary, grammar, prompt, most):
    need_model(model)
    need_settings(model, settings)
    need_vocabulary(vocabulary)
    _need_grammar(grammar)
    need_prompt(model, prompt)
    need_number(most, 0)


def _need_vocabulary_or_none(vocabulary):
    if vocabulary is not None:
        need_vocabulary(vocabulary)


def _need_grammar(grammar):
    if not is_grammar(grammar):
        raise BadGrammar(grammar)


def _need_size(model, vocabulary):
    if size(vocabulary) != model[1]:
        raise BadSize(vocabulary)


def _need_fit(bound, answer):
    if bound.ending(answer) == (0, 1):
        raise NoFit()


def _is_move(thing, states):
    if not is_tuple_of(thing, 3):
        return False
    source, letter, target = thing
    if not (is_number_below(source, states) and is_number_below(target, states)):
        return False
    return are_small_letters(letter) and len(letter) == 1
