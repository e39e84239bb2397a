"""Renamings, lists of pairs (old, new) of free names: done to stretches, turned, and followed by one another."""

from kinrows.errors import BadRenaming, Clash
from kinrows.words import is_free


def is_pair(thing):
    """Whether it is a tuple of two free names."""
    return isinstance(thing, tuple) and len(thing) == 2 and is_free(thing[0]) and is_free(thing[1])


def is_renaming(thing):
    """Whether it is a list of pairs of free names, no old twice, no new twice."""
    if not isinstance(thing, list) or not all(is_pair(pair) for pair in thing):
        return False
    many = len(thing)
    return len({old for old, new in thing}) == many and len({new for old, new in thing}) == many


def refuse_bad(names):
    """BadRenaming of anything that is no renaming."""
    if not is_renaming(names):
        raise BadRenaming("a renaming is a list of pairs of free names, no old twice, no new twice")


def refuse_clash(words, names):
    """Clash at the first of the words that is a new, but no old: it would stay and meet a renamed name."""
    olds = {old: True for old, new in names}
    news = {new: True for old, new in names}
    for word in words:
        if word in news and word not in olds:
            raise Clash(word)


def renamed(stretch, names):
    """The stretch with its new for each free name that is an old; BadRenaming, then Clash."""
    refuse_bad(names)
    # Olds and news are free names, so kept names, numbers and signs never meet them.
    refuse_clash([word for row in stretch for word in row], names)
    new_of = {old: new for old, new in names}
    return [[new_of.get(word, word) for word in row] for row in stretch]


def turned(names):
    """The renaming back, its pairs in the same order; BadRenaming."""
    refuse_bad(names)
    return [(new, old) for old, new in names]


def followed(one, other):
    """The renaming that does what the one and then the other does; BadRenaming of either, then Clash."""
    refuse_bad(one)
    refuse_bad(other)
    refuse_clash([new for old, new in one], other)
    new_of = {old: new for old, new in other}
    return [(old, new_of.get(new, new)) for old, new in one]
