"""The lattice of forms of one shape: which is led to which, and two of them joined and met."""

from kinrows.forms import form_over, is_hole, items_under, refuse_bad_form, refuse_unlike_shapes


def refuse_either(one, other):
    """BadForm of either, then Shape of both."""
    refuse_bad_form(one)
    refuse_bad_form(other)
    refuse_unlike_shapes([one, other])


def led(one, other):
    """The list of items by which one becomes other, or None; BadForm."""
    refuse_bad_form(one)
    refuse_bad_form(other)
    return items_under(one, other)


def joined(one, other):
    """The narrowest form that is as wide as both; BadForm, then Shape."""
    refuse_either(one, other)
    return form_over([one, other])


def thing_of(item, side):
    """What is bound together: words are the same on both sides, holes are not."""
    return (side, item) if is_hole(item) else item


def head_of(above, thing):
    """The one thing that stands for all that are bound to this."""
    while thing in above:
        # Each look makes the way to the head shorter for the next.
        if above[thing] in above:
            above[thing] = above[above[thing]]
        thing = above[thing]
    return thing


def bind(above, mine, yours):
    """Binds two things and all that are bound to them together; tells whether no two unlike words are."""
    one = head_of(above, mine)
    other = head_of(above, yours)
    if one == other:
        return True
    if isinstance(one, str) and isinstance(other, str):
        return False
    # A word is the head of all that are bound to it, so that two words are seen to meet.
    if isinstance(one, str):
        above[other] = one
    else:
        above[one] = other
    return True


def first_clash(one, other, above):
    """Binds the items place by place, up to the first place that binds two unlike words; that place, or None."""
    for row, (mine, yours) in enumerate(zip(one, other)):
        for at, (left, right) in enumerate(zip(mine, yours)):
            if not bind(above, thing_of(left, 0), thing_of(right, 1)):
                return (row, at)
    return None


def bound_item(head, holes):
    """The word that things are bound to, else the hole of just these things."""
    return head if isinstance(head, str) else holes.setdefault(head, len(holes))


def met(one, other):
    """(True, the widest form to which both are led), or (False, the first place that bars it); BadForm, then Shape."""
    refuse_either(one, other)
    above = {}
    place = first_clash(one, other, above)
    if place is not None:
        return (False, place)
    holes = {}
    found = []
    for row in one:
        found.append([bound_item(head_of(above, thing_of(item, 0)), holes) for item in row])
    return (True, found)
