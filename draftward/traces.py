"""Texts of vocabularies and models, and traces of runs."""

from draftward.errors import BadLine
from draftward.kinds import first_difference
from draftward.needs import need_model, need_vocabulary
from draftward.servers import new_run
from draftward.texts import LineReader, lines_of_model, lines_of_vocabulary, model_of, vocabulary_of


def model_text(model):
    """Return the text of the model."""
    need_model(model)
    return "\n".join(lines_of_model(model))


def vocabulary_text(vocabulary):
    """Return the text of the vocabulary."""
    need_vocabulary(vocabulary)
    return "\n".join(lines_of_vocabulary(vocabulary))


def read_model(text):
    """Return the model with this text."""
    _need_string(text)
    return model_of(LineReader(text))


def read_vocabulary(text):
    """Return the vocabulary with this text."""
    _need_string(text)
    return vocabulary_of(LineReader(text))


def trace_of(server, arrivals):
    """Return the trace of the run from the beginning until all arrivals have outcomes."""
    run = new_run(server, arrivals)
    steps = []
    while not run.is_over():
        # Entries of rounds are without what is used then, which stands in their fifth place.
        steps.append(tuple([event[:4] for event in run.go_on()]))
    return tuple(steps)


def judge_trace(server, arrivals, thing):
    """Return the certificate that tells whether any value is the trace, or where it first differs from it."""
    right = trace_of(server, arrivals)
    if not isinstance(thing, tuple) or not all(isinstance(step, tuple) for step in thing):
        return ("none",)
    at = first_difference(right, thing)
    if at is None:
        return ("right",)
    if at == min(len(right), len(thing)):
        return ("wrong", at, 0)
    return ("wrong", at, first_difference(right[at], thing[at]))


def _need_string(text):
    if not isinstance(text, str):
        raise BadLine(0)
