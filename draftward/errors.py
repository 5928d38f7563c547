"""The errors of the program. Each carries what was passed, so that a caller can see the wrong value."""


class DraftError(Exception):
    """What every error of the program is."""


class BadModel(DraftError):
    """The value is not a model."""

    def __init__(self, thing):
        self.thing = thing


class BadSettings(DraftError):
    """The value is not settings of the model's size."""

    def __init__(self, thing):
        self.thing = thing


class BadDrafting(DraftError):
    """The value is not a drafting for the model's size."""

    def __init__(self, thing):
        self.thing = thing


class BadGrammar(DraftError):
    """The value is not a grammar."""

    def __init__(self, thing):
        self.thing = thing


class BadVocabulary(DraftError):
    """The value is not a vocabulary."""

    def __init__(self, thing):
        self.thing = thing


class BadPrompt(DraftError):
    """The value is not a prompt for the model."""

    def __init__(self, thing):
        self.thing = thing


class BadNumber(DraftError):
    """The value is not an integer in the range that is asked for."""

    def __init__(self, thing):
        self.thing = thing


class BadTape(DraftError):
    """The value is not a tuple of integers from 0 on."""

    def __init__(self, thing):
        self.thing = thing


class BadTokens(DraftError):
    """The value is not a tuple of tokens, as many as are asked for."""

    def __init__(self, thing):
        self.thing = thing


class BadToken(DraftError):
    """The value is not a token."""

    def __init__(self, thing):
        self.thing = thing


class BadText(DraftError):
    """The value is not a text of the letters that are asked for."""

    def __init__(self, thing):
        self.thing = thing


class BadTexts(DraftError):
    """The value is not a tuple of texts that can be trained on."""

    def __init__(self, thing):
        self.thing = thing


class BadRows(DraftError):
    """The value is not a row, or not rows, in the form that the model keeps."""

    def __init__(self, thing):
        self.thing = thing


class BadWeights(DraftError):
    """The value is not weights."""

    def __init__(self, thing):
        self.thing = thing


class BadOutcome(DraftError):
    """The value is not an outcome."""

    def __init__(self, thing):
        self.thing = thing


class BadAnswer(DraftError):
    """The value is not an answer of the length that is asked for."""

    def __init__(self, thing):
        self.thing = thing


class BadSize(DraftError):
    """The vocabulary does not have as many tokens as the model."""

    def __init__(self, thing):
        self.thing = thing


class NoFit(DraftError):
    """No outcome fits the grammar."""


class BadRequest(DraftError):
    """The value is not a request, or not the number of one, as is asked for."""

    def __init__(self, thing):
        self.thing = thing


class BadLengths(DraftError):
    """The value is not a length for each of the arrivals."""

    def __init__(self, thing):
        self.thing = thing


class BadPool(DraftError):
    """The value is not a pool of the model."""

    def __init__(self, thing):
        self.thing = thing


class BadServer(DraftError):
    """The value is not a server."""

    def __init__(self, thing):
        self.thing = thing


class BadArrivals(DraftError):
    """The value is not arrivals of the server."""

    def __init__(self, thing):
        self.thing = thing


class BadStanding(DraftError):
    """The value is not a standing of the server with the arrivals."""

    def __init__(self, thing):
        self.thing = thing


class Refused(DraftError):
    """The request needs more pages than the server has."""

    def __init__(self, thing):
        self.thing = thing


class BadJournal(DraftError):
    """The value is not a beginning of a journal."""

    def __init__(self, thing):
        self.thing = thing


class BadLine(DraftError):
    """The text goes wrong at the line with this number."""

    def __init__(self, at):
        self.at = at
