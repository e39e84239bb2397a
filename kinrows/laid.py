"""Rows left out: stretches laid to one another by a part of their rows."""

from kinrows.errors import TooLong
from kinrows.twins import mark

MOST_LAID = 12
MOST_NEAR = 6


def refuse_long(stretch, most):
    """TooLong of more than most rows."""
    if len(stretch) > most:
        raise TooLong("there are too many rows to be laid")


def choices(many, out):
    """All rising lists of the numbers below many with out of them left out."""
    if out < 0 or out > many:
        return []
    if many == 0:
        return [[]]
    last = many - 1
    return [rows + [last] for rows in choices(last, out)] + choices(last, out - 1)


def choices_with_ends(many, out):
    """Those of the choices that have the first number and the last."""
    return [rows for rows in choices(many, out) if rows[:1] == [0] and rows[-1:] == [many - 1]]


def mark_of(stretch, rows):
    """The mark of these rows of the stretch put one behind the other, as a key."""
    return tuple(tuple(items) for items in mark([stretch[row] for row in rows]))


def layings(one, ones, other, others):
    """All lists of pairs by which one of the choices ones of rows of one is laid to one of the others of other."""
    by_mark = {}
    for rows in others:
        by_mark.setdefault(mark_of(other, rows), []).append(rows)
    found = []
    for rows in ones:
        for mates in by_mark.get(mark_of(one, rows), []):
            found.append(list(zip(rows, mates)))
    return found


def ways_out(one, other, most):
    """How many rows can be left out of one and of other, fewest in all first, so that as many of both are laid, one
    at least, and not more than most are left out."""
    more = len(one) - len(other)
    # Behind this nothing would be laid.
    end = min(most + 1, len(one) + len(other))
    return [((left + more) // 2, (left - more) // 2) for left in range(abs(more), end, 2)]


def laid(one, other, most):
    """The least list of pairs of rows by which they are laid with the fewest left out, or None; TooLong."""
    refuse_long(one, MOST_LAID)
    refuse_long(other, MOST_LAID)
    for out, gone in ways_out(one, other, most):
        found = layings(one, choices(len(one), out), other, choices(len(other), gone))
        if found:
            return min(found)
    return None


def fewest_left(one, part, most):
    """How few rows are left out where one is laid to a part of rows, its first and last row too; None, if it can't."""
    for out, gone in ways_out(one, part, most):
        if layings(one, choices(len(one), out), part, choices_with_ends(len(part), gone)):
            return out + gone
    return None


def near(one, rows, most):
    """All (first, many, left), rising, of the parts of rows to which one can be laid from end to end; TooLong."""
    refuse_long(one, MOST_NEAR)
    refuse_long(rows, MOST_LAID)
    found = []
    for first in range(len(rows)):
        for many in range(1, len(rows) - first + 1):
            left = fewest_left(one, rows[first:first + many], most)
            if left is not None:
                found.append((first, many, left))
    return found
