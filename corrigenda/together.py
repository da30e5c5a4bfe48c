"""Two patches of one value, brought together ([6.1] to [6.4])."""

from corrigenda.deeds import deeds
from corrigenda.effect import effect
from corrigenda.errors import Unfit
from corrigenda.kind import check_value
from corrigenda.merge import left, merged
from corrigenda.patch import check_patch


def quarrel(kind, v, p, q):
    """Whether p and q quarrel over v."""
    check_fit(kind, v, p, q)
    return merged(kind, deeds(kind, p), deeds(kind, q)) is None


def together(kind, v, p, q):
    """The outcome of p and q at v; None if they quarrel."""
    check_fit(kind, v, p, q)
    return merged(kind, deeds(kind, p), deeds(kind, q))


def rest(kind, v, p, q):
    """A patch that leads from what p makes of v to what the outcome makes of v; None if they quarrel."""
    check_fit(kind, v, p, q)
    first = deeds(kind, p)
    later = deeds(kind, q)
    return None if merged(kind, first, later) is None else left(kind, first, later)


def check_fit(kind, v, p, q):
    """Refuse what is no value and what are no patches, then patches that do not fit the value."""
    check_value(kind, v)
    check_patch(kind, p)
    check_patch(kind, q)
    if effect(kind, p, v) is None or effect(kind, q, v) is None:
        raise Unfit()
