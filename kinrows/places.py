"""Whole numbers, and whether they are places among rows."""


def is_whole(thing):
    """Whether it is a whole number."""
    # Python counts True and False among the integers.
    return isinstance(thing, int) and not isinstance(thing, bool)


def is_stretch(first, many, rows):
    """Whether there are many rows, one at least, from first on, where there are so many rows in all."""
    return is_whole(first) and is_whole(many) and first >= 0 and many >= 1 and first + many <= rows
