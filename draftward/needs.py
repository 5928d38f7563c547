"""The errors for the parameters that many functions have: each is raised if the value is not of the kind."""

from draftward.errors import BadModel, BadNumber, BadPrompt, BadSettings, BadTape, BadVocabulary
from draftward.kinds import are_open_tokens, is_integer_from, is_tape
from draftward.models import is_model
from draftward.settings import are_steps
from draftward.tokens import is_vocabulary


def need_model(model):
    """Raise BadModel if the value is not a model."""
    if not is_model(model):
        raise BadModel(model)


def need_settings(model, settings):
    """Raise BadSettings if the value is not settings of the model's size."""
    if not are_steps(settings, model[1]):
        raise BadSettings(settings)


def need_vocabulary(vocabulary):
    """Raise BadVocabulary if the value is not a vocabulary."""
    if not is_vocabulary(vocabulary):
        raise BadVocabulary(vocabulary)


def need_prompt(model, prompt):
    """Raise BadPrompt if the value is not a prompt for the model."""
    if not is_prompt(model, prompt):
        raise BadPrompt(prompt)


def need_number(thing, least):
    """Raise BadNumber if the value is not an integer from least on."""
    if not is_integer_from(thing, least):
        raise BadNumber(thing)


def need_tape(tape):
    """Raise BadTape if the value is not a tape."""
    if not is_tape(tape):
        raise BadTape(tape)


def is_prompt(model, thing):
    """Tell whether thing is a prompt for the model."""
    return are_open_tokens(thing, model[1]) and thing != ()
