"""Bounds: papers that the distance of two values is at least some number ([3.2], [3.3])."""

from corrigenda.gap import climb, lone, lone_heft, shared, shifts
from corrigenda.kind import heft, is_tuple, is_whole


def paper_of(kind, v, w):
    """A bound whose worth is the distance."""
    word = kind[0]
    if has_turn_alone(kind, v, w):
        return ("all",)
    if word == "record":
        return ("record", tuple([paper_of(inner, a, b) for inner, a, b in zip(kind[1], v, w)]))
    if word == "choice":
        return ("choice", paper_of(kind[1][v[0]], v[1], w[1]))
    if word == "row":
        heights = tuple([tuple(line) for line in climb(kind[1], v, w)])
        return ("row", heights, tuple([tuple([paper_of(kind[1], a, b) for b in w]) for a in v]))
    if word == "table":
        return ("table", tuple([paper_of(kind[2], a, b) for _, a, b in shared(v, w)]))
    return (word,)


def has_turn_alone(kind, v, w):
    """Whether nothing but a turn leads from v to an unlike w: for numbers, and choices of unlike k."""
    return kind[0] == "number" or (kind[0] == "choice" and v[0] != w[0])


def worth_of(kind, v, w, paper):
    """The worth of a bound; None if the paper is none, or is not right."""
    if not isinstance(paper, tuple) or len(paper) == 0:
        return None
    if paper[0] == "none":
        return 0 if len(paper) == 1 else None
    if has_turn_alone(kind, v, w):
        return turn_worth(kind, v, w) if paper == ("all",) else None
    if paper[0] != kind[0]:
        return None
    action = WORTHS[kind[0]]
    return action(kind, v, w, paper)


def turn_worth(kind, v, w):
    """The worth of ("all",)."""
    return 0 if v == w else heft(kind, v) + heft(kind, w)


def record_worth(kind, v, w, paper):
    """The worth of a bound of records."""
    if len(paper) != 2 or not is_tuple(paper[1], len(kind[1])):
        return None
    return total([worth_of(inner, a, b, each) for inner, a, b, each in zip(kind[1], v, w, paper[1])])


def choice_worth(kind, v, w, paper):
    """The worth of a bound of choices of the same k."""
    return worth_of(kind[1][v[0]], v[1], w[1], paper[1]) if len(paper) == 2 else None


def row_worth(kind, v, w, paper):
    """The worth of a bound of rows."""
    if len(paper) != 3 or not is_grid(paper[1], len(v) + 1, len(w) + 1) or not is_grid(paper[2], len(v), len(w)):
        return None
    _, heights, bounds = paper
    if not all([is_whole(height) and height >= 0 for line in heights for height in line]) or heights[0][0] != 0:
        return None
    worths = [[worth_of(kind[1], a, b, each) for b, each in zip(w, line)] for a, line in zip(v, bounds)]
    if any([None in line for line in worths]):
        return None
    downs = [heft(kind[1], item) for item in v]
    lefts = [heft(kind[1], item) for item in w]
    if not (goes_down(heights, downs) and goes_left(heights, lefts) and goes_across(heights, worths)):
        return None
    return heights[-1][-1]


def is_grid(thing, many, wide):
    """Whether the thing is a tuple of so many tuples, each so wide."""
    return is_tuple(thing, many) and all([is_tuple(line, wide) for line in thing])


def goes_down(heights, downs):
    """Whether no item of v lifts the heights by more than it weighs."""
    return all([low <= high + down for above, line, down in zip(heights, heights[1:], downs)
                for high, low in zip(above, line)])


def goes_left(heights, lefts):
    """Whether no item of w lifts the heights by more than it weighs."""
    return all([low <= high + left for line in heights for high, low, left in zip(line, line[1:], lefts)])


def goes_across(heights, worths):
    """Whether no two items at once lift the heights by more than the bound inside is worth."""
    return all([low <= high + each for above, line, inside in zip(heights, heights[1:], worths)
                for high, low, each in zip(above, line[1:], inside)])


def lot_worth(kind, v, w, paper):
    """The worth of a bound of sets or bags."""
    return sum([heft(kind[1], item) * abs(d) for item, d in shifts(kind, v, w)]) if len(paper) == 1 else None


def table_worth(kind, v, w, paper):
    """The worth of a bound of tables."""
    both = shared(v, w)
    if len(paper) != 2 or not is_tuple(paper[1], len(both)):
        return None
    inside = [worth_of(kind[2], a, b, each) for (_, a, b), each in zip(both, paper[1])]
    return total(inside + [lone_heft(kind, pair) for pair in lone(v, w) + lone(w, v)])


def total(worths):
    """The sum of the worths; None if one of them is None."""
    return None if None in worths else sum(worths)


WORTHS = {
    "record": record_worth,
    "choice": choice_worth,
    "row": row_worth,
    "set": lot_worth,
    "bag": lot_worth,
    "table": table_worth,
}
