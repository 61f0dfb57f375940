"""The refusals: one class for each, so that an asker can take each by its name."""


# Under ValueError, so that an asker who knows nothing of this package can take it too.
class ForestError(ValueError):
    pass


class NoGrammar(ForestError):
    pass


class NoText(ForestError):
    pass


class NoRow(ForestError):
    pass


class NoRule(ForestError):
    pass


class NoNumber(ForestError):
    pass


class NoCosts(ForestError):
    pass


class NoChange(ForestError):
    pass


class NoWords(ForestError):
    pass


class Endless(ForestError):
    pass


class TooGreat(ForestError):
    pass


class Barren(ForestError):
    pass
