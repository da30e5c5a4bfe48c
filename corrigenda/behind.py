"""One patch behind the other, the normal form, and whether two patches are alike ([4.2], [4.3], [5.1], [5.2])."""

from corrigenda.joined import joined
from corrigenda.patch import check_patch
from corrigenda.standard import standard
from corrigenda.witness import witness


def behind(kind, p, q):
    """A patch that is p and then q; None if no value is left that fits."""
    check_patches(kind, p, q)
    return joined(kind, p, q)


def normal(kind, patch):
    """The normal form of a patch."""
    check_patch(kind, patch)
    return standard(kind, patch)


def alike(kind, p, q):
    """Whether two patches fit the same values and make the same of them."""
    check_patches(kind, p, q)
    return standard(kind, p) == standard(kind, q)


def apart(kind, p, q):
    """A value that one of them alone fits, or of which they make unlike ones; None if they are alike."""
    check_patches(kind, p, q)
    first = standard(kind, p)
    second = standard(kind, q)
    return None if first == second else witness(kind, first, second)


def check_patches(kind, p, q):
    """Refuse what is no kind, then what is no patch of it."""
    check_patch(kind, p)
    check_patch(kind, q)
