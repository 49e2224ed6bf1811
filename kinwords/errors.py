"""The refusals: one base under ValueError, each other one straight under it."""


class KinError(ValueError):
    """Any refusal."""


class NoText(KinError):
    """A text that is not written as kinds and sayings are written."""


class NoFact(KinError):
    """A fact that no step of a list tells."""

    def __init__(self, fact):
        self.fact = fact


class NoQuestion(KinError):
    """A saying of a form that can't be asked."""


class NoSaying(KinError):
    """A number by which no saying stands at the desk."""

    def __init__(self, number):
        self.number = number


class TooMany(KinError):
    """More sayings at hand than least sets and cuts are told of."""


class NoRow(KinError):
    """A row that a clerk does not know."""
