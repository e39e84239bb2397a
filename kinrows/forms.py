"""Forms: stretches with numbered holes in the place of some words; found over stretches, filled, and fitted."""

from kinrows.errors import BadFilling, BadForm, NoRows, Shape
from kinrows.places import is_whole
from kinrows.words import is_word

MOST_ROWS = 60
MOST_ITEMS = 30


def is_item(thing):
    """Whether it is a word or may be a hole."""
    return is_word(thing) or is_whole(thing) and thing >= 0


def is_row(thing):
    """Whether it is a list of not too many items."""
    return isinstance(thing, list) and len(thing) <= MOST_ITEMS and all(is_item(item) for item in thing)


def holes_in_order(items):
    """Whether each hole came ahead or is the next number, from 0 on."""
    many = 0
    for item in items:
        if is_hole(item):
            if item > many:
                return False
            many = max(many, item + 1)
    return True


def is_form(thing):
    """Whether it is a list of not too many rows of items, its holes in order."""
    if not isinstance(thing, list) or len(thing) > MOST_ROWS or not all(is_row(row) for row in thing):
        return False
    return holes_in_order([item for row in thing for item in row])


def is_hole(item):
    """Whether an item is a hole; asked of items alone."""
    return isinstance(item, int)


def refuse_bad_form(thing):
    """BadForm of anything that is no form."""
    if not is_form(thing):
        raise BadForm("a form is a list of lists of words and of holes in order")


def refuse_no_rows(form):
    """NoRows of a form without rows."""
    if not form:
        raise NoRows("the form has no rows")


def first_row_unlike(forms):
    """The first row that not all of them have, or that has not as many items in all of them; None of one shape."""
    for row in range(max(len(form) for form in forms)):
        sizes = [len(form[row]) if row < len(form) else None for form in forms]
        if any(size != sizes[0] for size in sizes):
            return row
    return None


def refuse_unlike_shapes(forms):
    """Shape of forms that aren't of one shape."""
    row = first_row_unlike(forms)
    if row is not None:
        raise Shape(row)


def item_over(items, holes):
    """The word, if all these items of one place are this word; else the hole of just these items."""
    if not is_hole(items[0]) and all(item == items[0] for item in items):
        return items[0]
    return holes.setdefault(items, len(holes))


def form_over(forms):
    """The narrowest form that is as wide as all of these, which are of one shape."""
    holes = {}
    found = []
    for rows in zip(*forms):
        found.append([item_over(items, holes) for items in zip(*rows)])
    return found


def form_of(stretches):
    """The narrowest form that all the stretches fit; NoRows of none at all, then Shape."""
    if not stretches:
        raise NoRows("a form is found over one stretch at least")
    refuse_unlike_shapes(stretches)
    return form_over(stretches)


def how_many_holes(form):
    """How many holes it has; asked of forms alone, which need not be gone through again."""
    return len({item for row in form for item in row if is_hole(item)})


def holes_of(form):
    """How many holes the form has; BadForm."""
    refuse_bad_form(form)
    return how_many_holes(form)


def filled_with(form, words):
    """The stretch with words[k] at each place of hole k, asked of forms and lists of words alone; BadFilling."""
    if len(words) != how_many_holes(form):
        raise BadFilling("a form is filled with just as many words as it has holes")
    return [[words[item] if is_hole(item) else item for item in row] for row in form]


def filled(form, words):
    """The stretch with words[k] at each place of hole k; BadForm, then BadFilling."""
    refuse_bad_form(form)
    if not isinstance(words, list) or not all(is_word(word) for word in words):
        raise BadFilling("a form is filled with a list of words")
    return filled_with(form, words)


def items_under(form, other):
    """The items of other under the holes of the form, by which it becomes other; None, if it can't."""
    if first_row_unlike([form, other]) is not None:
        return None
    under = {}
    for row, others in zip(form, other):
        for item, thing in zip(row, others):
            if is_hole(item):
                item = under.setdefault(item, thing)
            if item != thing:
                return None
    # Holes first come in the order of their numbers.
    return list(under.values())


def fillings(form, stretch):
    """The list of words by which the form, filled, is the stretch, or None; BadForm."""
    refuse_bad_form(form)
    return items_under(form, stretch)
