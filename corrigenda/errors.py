"""The errors of the package. They are made with no arguments and have no text."""


class CorrigendaError(ValueError):
    """What every error of this package is."""


class BadKind(CorrigendaError):
    """An argument is no kind ([1.1])."""


class BadValue(CorrigendaError):
    """An argument is no value of its kind, or a heavier one than may be handed in ([1.2])."""


class BadPatch(CorrigendaError):
    """An argument is no patch of its kind, or a larger one than may be handed in ([2.1], [2.3])."""


class Unfit(CorrigendaError):
    """A patch does not fit the value."""
