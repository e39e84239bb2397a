"""Folds: calls put in the place of rows that fit a form, and rows put in the place of calls again."""

from kinrows.errors import BadCall, BadName, NoFit, NoForm, NoPlace, Overlap, Ring, TooMany, Wide
from kinrows.forms import filled_with, how_many_holes, items_under, refuse_bad_form, refuse_no_rows
from kinrows.places import is_stretch
from kinrows.words import is_free, is_free_word

CALL = "use"
# A call has its first word and the name besides, and a row has at most 30 words.
MOST_HOLES = 28
MOST_UNFOLDED = 400


def refuse_spots(spots, many, rows):
    """NoPlace of a spot at which no part of many rows begins, where there are so many rows; then Overlap."""
    for spot in spots:
        if not is_stretch(spot, many, rows):
            raise NoPlace("no part of so many rows begins there")
    for ahead, spot in zip(spots, spots[1:]):
        if spot < ahead + many:
            raise Overlap("a part begins ahead of the end of the one ahead of it")


def call_for(name, form, part):
    """The call by which the part can be unfolded again; NoFit."""
    words = items_under(form, part)
    if words is None:
        raise NoFit("the part doesn't fit the form")
    return [CALL, name] + words


def fold(stretch, spots, name, form):
    """The stretch with a call in the place of each part that begins at one of the spots and fits the form; BadForm,
    NoRows, Wide, BadName, NoPlace, Overlap, NoFit."""
    refuse_bad_form(form)
    refuse_no_rows(form)
    if how_many_holes(form) > MOST_HOLES:
        raise Wide("the form has more holes than a call can fill")
    if not is_free(name):
        raise BadName("a form is called by a free name")
    many = len(form)
    refuse_spots(spots, many, len(stretch))
    rows = []
    end = 0
    for spot in spots:
        rows += [list(row) for row in stretch[end:spot]]
        end = spot + many
        rows.append(call_for(name, form, stretch[spot:end]))
    return rows + [list(row) for row in stretch[end:]]


def name_called(call, forms, within):
    """The name that a call calls; BadCall, NoForm, Ring. Within are the names of the calls that it came by."""
    if len(call) < 2 or not is_free_word(call[1]):
        raise BadCall("a call has a free name as its second word")
    name = call[1]
    if name not in forms:
        raise NoForm(name)
    if name in within:
        raise Ring(name)
    return name


def unfold_onto(rows, stretch, forms, within):
    """Puts the rows of the stretch, unfolded, behind these rows."""
    for words in stretch:
        if words[:1] == [CALL]:
            name = name_called(words, forms, within)
            unfold_onto(rows, filled_with(forms[name], words[2:]), forms, within + (name,))
        elif len(rows) == MOST_UNFOLDED:
            raise TooMany("more than 400 rows are unfolded")
        else:
            rows.append(list(words))


def unfold(stretch, forms):
    """The stretch with the filled rows of its form in the place of each call, on to the end; BadForm, NoRows, and at
    the first row at which one is due TooMany, BadCall, NoForm, Ring, BadFilling."""
    for name in forms:
        refuse_bad_form(forms[name])
    for name in forms:
        refuse_no_rows(forms[name])
    rows = []
    unfold_onto(rows, stretch, forms, ())
    return rows
