"""Drafts: another model drafts tokens ahead, and each is tried so that no chance changes."""

from draftward.errors import BadAnswer, BadDrafting, BadWeights
from draftward.kinds import are_open_tokens, are_weights, is_integer_from, is_tuple_of
from draftward.models import is_model, weights_after
from draftward.needs import need_model, need_number, need_prompt, need_settings, need_tape
from draftward.rounds import Rounds, TapeReader, played_out, rest_of
from draftward.settings import applied, are_steps
from draftward.ways import AllRuns
from draftward.weights import PlainWeights, fraction
from draftward.writer import need_tokens_so_far


def is_drafting(model, thing):
    """Tell whether any value is a drafting for the model's size; None is not."""
    need_model(model)
    return is_drafting_for(thing, model[1])


def rest(weights, draft_weights):
    """Return the rest of the weights against the draft weights."""
    if not are_weights(weights):
        raise BadWeights(weights)
    if not are_weights(draft_weights) or len(draft_weights) != len(weights):
        raise BadWeights(draft_weights)
    return rest_of(weights, draft_weights)


def gain(model, settings, drafting, tokens, answered):
    """Return the chance that a token which is drafted after the tokens is kept."""
    need_model(model)
    need_settings(model, settings)
    if not is_drafting_for(drafting, model[1]):
        raise BadDrafting(drafting)
    need_tokens_so_far(model, tokens, answered)
    draft, draft_settings, _ = drafting
    weights = applied(settings, weights_after(model, tokens), tokens, answered)
    draft_weights = applied(draft_settings, weights_after(draft, tokens), tokens, answered)
    whole = sum(weights)
    draft_whole = sum(draft_weights)
    kept = [min(p * draft_whole, q * whole) for p, q in zip(weights, draft_weights)]
    return fraction(sum(kept), whole * draft_whole)


def round_of(model, settings, drafting, prompt, most, answer, tape, used, number):
    """Return what the round with this number settles after the answer, the reason, and how much tape is used then."""
    rounds = asked_rounds(model, settings, drafting, prompt, most)
    need_answer_to_go_on(model, most, answer)
    need_tape(tape)
    need_number(used, 0)
    need_number(number, 0)
    return played_round(rounds, answer, tape, used, number)


def write_drafted(model, settings, drafting, prompt, most, tape):
    """Return the answer that rounds come to, the reason why it ends, how much tape is used, and how many rounds."""
    rounds = asked_rounds(model, settings, drafting, prompt, most)
    need_tape(tape)
    return written(rounds, tape)


def drafted_chances(model, settings, drafting, prompt, most):
    """Return the pairs of all outcomes that can come by rounds and their chances, in ascending order."""
    return AllRuns(asked_rounds(model, settings, drafting, prompt, most)).chances()


def mean_rounds(model, settings, drafting, prompt, most):
    """Return the mean number of rounds until the answer ends."""
    return AllRuns(asked_rounds(model, settings, drafting, prompt, most)).mean


def asked_rounds(model, settings, drafting, prompt, most):
    """Return the rounds for these values, or raise the error of the first one that is wrong."""
    need_model(model)
    need_settings(model, settings)
    need_drafting(model, drafting)
    need_prompt(model, prompt)
    need_number(most, 0)
    return Rounds(PlainWeights(model, settings, prompt), drafting, prompt, most)


def written(rounds, tape):
    """Return what write_drafted returns, for rounds that are there already."""
    before, (answer, reason), used = played_out(rounds, tape)
    return (answer, reason, used, len(before))


def played_round(rounds, answer, tape, used, number):
    """Return what round_of returns, for rounds that are there already."""
    reader = TapeReader(tape, used)
    settled, reason = rounds.play(answer, number, reader)
    return (settled, reason, reader.used)


def need_drafting(model, drafting):
    """Raise BadDrafting if the value is neither None nor a drafting for the model's size."""
    if drafting is not None and not is_drafting_for(drafting, model[1]):
        raise BadDrafting(drafting)


def need_answer_to_go_on(model, most, answer):
    """Raise BadAnswer if the value is not an answer of fewer than most tokens."""
    if not are_open_tokens(answer, model[1]) or len(answer) >= most:
        raise BadAnswer(answer)


def is_drafting_for(thing, many):
    """Tell whether thing is a drafting for models of so many tokens."""
    if not is_tuple_of(thing, 3):
        return False
    draft, draft_settings, plan = thing
    if not is_model(draft) or draft[1] != many or not are_steps(draft_settings, many):
        return False
    return isinstance(plan, tuple) and plan != () and all(_is_drafter(item) for item in plan)


def _is_drafter(thing):
    return is_tuple_of(thing, 2) and thing[0] in ("row", "several") and is_integer_from(thing[1], 1)
