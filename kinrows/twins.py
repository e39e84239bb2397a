"""Twins: stretches that are alike but for a renaming of their free names."""

from kinrows.words import is_free_word


def led_from(old, new, by_old, by_new):
    """The first place ahead that has just one of these two names where the other stands here, or None."""
    places = []
    if old in by_old and by_old[old][1] != new:
        places.append(by_old[old][0])
    if new in by_new and by_new[new][1] != old:
        places.append(by_new[new][0])
    return min(places, default=None)


def word_barred(old, new, by_old, by_new):
    """The pair (reason, earlier), if these two words can't stand at one place, or None."""
    if is_free_word(old) and is_free_word(new):
        earlier = led_from(old, new, by_old, by_new)
        return None if earlier is None else ("led", earlier)
    return None if old == new else ("unlike", None)


def barred(one, other):
    """The first place that is wrong, as (row, word, reason, earlier), or None of twins."""
    # By each name: the place at which it came first, and the name of the other stretch there. Up to the first wrong
    # place a name has the same other name wherever it comes, so its first coming tells of all.
    by_old = {}
    by_new = {}
    for row, (olds, news) in enumerate(zip(one, other)):
        for word, (old, new) in enumerate(zip(olds, news)):
            wrong = word_barred(old, new, by_old, by_new)
            if wrong is not None:
                return (row, word, wrong[0], wrong[1])
            by_old.setdefault(old, ((row, word), new))
            by_new.setdefault(new, ((row, word), old))
        if len(olds) != len(news):
            return (row, min(len(olds), len(news)), "end", None)
    if len(one) != len(other):
        return (min(len(one), len(other)), 0, "end", None)
    return None


def renaming(one, other):
    """The renaming from the one to the other, in the order in which the olds first come, or None of no twins."""
    if barred(one, other) is not None:
        return None
    new_of = {}
    for olds, news in zip(one, other):
        for old, new in zip(olds, news):
            if is_free_word(old):
                new_of.setdefault(old, new)
    return list(new_of.items())


def mark(stretch):
    """The rows with the number of its first coming for each free name: equal just for twins."""
    numbers = {}
    rows = []
    for words in stretch:
        items = []
        for word in words:
            items.append(numbers.setdefault(word, len(numbers)) if is_free_word(word) else word)
        rows.append(items)
    return rows
