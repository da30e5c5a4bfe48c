"""The parts of patches of rows, taken apart and put together, and the patch of one value alone."""

SAME = ("same",)
KEEP = ("keep", 1)


def units(parts):
    """The parts, but each "keep" as several of one item."""
    found = []
    for part in parts:
        if part[0] == "keep":
            found.extend([KEEP] * part[1])
        else:
            found.append(part)
    return found


def packed(parts):
    """The parts as a tuple, neighbouring "keep" as one."""
    found = []
    for part in parts:
        if part[0] == "keep" and found and found[-1][0] == "keep":
            found[-1] = ("keep", found[-1][1] + part[1])
        else:
            found.append(part)
    return tuple(found)


def settled(v, w):
    """The patch that fits v alone and makes w of it; None if one of them is None."""
    if v is None or w is None:
        return None
    return ("only", v) if v == w else ("turn", v, w)
