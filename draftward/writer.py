"""The plain writer: next weights, draws, and the chances of all outcomes."""

from draftward.errors import BadNumber, BadOutcome, BadTokens, BadWeights
from draftward.kinds import are_open_tokens, are_weights, is_integer_from, is_tuple_of
from draftward.models import weights_after
from draftward.needs import need_model, need_number, need_prompt, need_settings, need_tape
from draftward.rounds import TapeReader
from draftward.settings import applied, are_steps
from draftward.weights import PlainWeights, fraction


def are_settings(model, thing):
    """Tell whether any value are settings for the model's size."""
    need_model(model)
    return are_steps(thing, model[1])


def next_weights(model, settings, tokens, answered):
    """Return the next weights after the tokens, the last ones of which, as many as answered, are the answer."""
    need_model(model)
    need_settings(model, settings)
    need_tokens_so_far(model, tokens, answered)
    return applied(settings, weights_after(model, tokens), tokens, answered)


def draw(weights, tape, used):
    """Return the token that is drawn by the weights with the integer at position used, and the next position."""
    if not are_weights(weights):
        raise BadWeights(weights)
    need_tape(tape)
    need_number(used, 0)
    reader = TapeReader(tape, used)
    token = reader.token_by(weights)
    return (token, reader.used)


def write_plain(model, settings, prompt, most, tape):
    """Return the answer of the plain writer, the reason why it ends, and the number of draws."""
    need_asking(model, settings, prompt, most)
    need_tape(tape)
    return written_by(PlainWeights(model, settings, prompt), most, tape)


def plain_chance(model, settings, prompt, most, outcome):
    """Return the chance that the plain writer comes to the outcome."""
    need_asking(model, settings, prompt, most)
    if not _is_outcome(outcome, model[1], most):
        raise BadOutcome(outcome)
    weights = PlainWeights(model, settings, prompt)
    answer, reason = outcome
    drawn = answer if reason == "most" else (*answer, 0)
    n = 1
    d = 1
    for at, token in enumerate(drawn):
        after = weights.after(answer[:at])
        n *= after[token]
        d *= sum(after)
    return fraction(n, d)


def plain_chances(model, settings, prompt, most):
    """Return the pairs of all outcomes that can come and their chances, in ascending order."""
    need_asking(model, settings, prompt, most)
    return chances_by(PlainWeights(model, settings, prompt), most)


def written_by(weights, most, tape):
    """Return what write_plain returns, if the weights are those of each draw."""
    reader = TapeReader(tape, 0)
    answer = ()
    while len(answer) < most:
        token = reader.token_by(weights.after(answer))
        if token == 0:
            return (answer, "end", reader.used)
        answer = (*answer, token)
    return (answer, "most", reader.used)


def chances_by(weights, most):
    """Return the pairs of all outcomes that can come and their chances, if the weights are those of each draw."""
    found = []
    going = [((), (1, 1))]
    length = 0
    while going and length < most:
        ended, going = drawn_on(weights, going)
        found.extend(ended)
        length += 1
    found.extend([((answer, "most"), chance) for answer, chance in going])
    return tuple(sorted(found))


def drawn_on(weights, going):
    """Return the outcomes, and the answers that go on, to which a draw after each of the answers can lead.

    All stand in pairs with their chances.
    """
    ended = []
    longer = []
    for answer, (n, d) in going:
        after = weights.after(answer)
        whole = d * sum(after)
        if after[0] > 0:
            ended.append(((answer, "end"), fraction(n * after[0], whole)))
        for token in range(1, len(after)):
            if after[token] > 0:
                longer.append(((*answer, token), fraction(n * after[token], whole)))
    return (ended, longer)


def need_asking(model, settings, prompt, most):
    """Raise the error of the first of these values that is wrong."""
    need_model(model)
    need_settings(model, settings)
    need_prompt(model, prompt)
    need_number(most, 0)


def need_tokens_so_far(model, tokens, answered):
    """Raise BadTokens or BadNumber if the values are not tokens of a prompt and an answer, and the answer's length."""
    if not are_open_tokens(tokens, model[1]) or tokens == ():
        raise BadTokens(tokens)
    if not is_integer_from(answered, 0) or answered > len(tokens):
        raise BadNumber(answered)


def _is_outcome(thing, many, most):
    if not is_tuple_of(thing, 2):
        return False
    answer, reason = thing
    if not are_open_tokens(answer, many):
        return False
    return (reason == "most" and len(answer) == most) or (reason == "end" and len(answer) < most)
