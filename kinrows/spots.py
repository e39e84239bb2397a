"""Spots: where parts of a stretch fit a form, and as many of them as can stand apart."""

from kinrows.forms import items_under, refuse_bad_form, refuse_no_rows


def fitting(stretch, form):
    """All rows, rising, at which a part begins that fits the form; BadForm, then NoRows."""
    refuse_bad_form(form)
    refuse_no_rows(form)
    many = len(form)
    return [first for first in range(len(stretch) - many + 1)
            if items_under(form, stretch[first:first + many]) is not None]


def apart(firsts, many):
    """As many of these first rows, rising, as can be whose parts of many rows share no row."""
    found = []
    for first in sorted(firsts):
        if not found or first >= found[-1] + many:
            found.append(first)
    return found


def stakes(firsts, many):
    """The last rows, rising, of the parts that stand apart: each part holds one of them."""
    return [first + many - 1 for first in apart(firsts, many)]
