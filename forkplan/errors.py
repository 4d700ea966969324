"""The refusals: one class each, all of them straight under ForkError."""


class ForkError(ValueError):
    """Any refusal."""


class NoWorld(ForkError):
    """What was handed in makes no world."""


class NoName(ForkError):
    """A name is no deed's or no look's."""


class NoPlan(ForkError):
    """What was handed in makes no plan."""


class NotSure(ForkError):
    """A plan does not surely work."""


class NotPlain(ForkError):
    """A deed of the world has several ways."""


class NoWeights(ForkError):
    """The weights do not fit the first knowledge."""


class TooMany(ForkError):
    """More knowledges come than are gone through."""


class NoText(ForkError):
    """A text writes no world or no plan."""


class NoOrder(ForkError):
    """A row is none that the desk answers."""
