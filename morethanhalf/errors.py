"""The refusals, each of its own class straight under HalfError."""


class HalfError(ValueError):
    """Any refusal."""


class NoThing(HalfError):
    """A thing is none, or two things that should be unlike are one."""


class NoFit(HalfError):
    """What was told cannot be right."""


class TooMany(HalfError):
    """A number is not among those that are answered for."""


class NoName(HalfError):
    """A name is there already, or is not there."""


class NoAsk(HalfError):
    """Nothing is asked for, or an ask stands in the way."""


class NoText(HalfError):
    """A text is not that of a tree."""


class NoForm(HalfError):
    """A row is none that the desk knows."""


class NoneYet(HalfError):
    """No things have been told."""
