"""Greatest pairs: twin stretches of files that can't be made longer, neither ahead nor behind."""

from kinrows.words import is_free_word


def looked_back(stretch):
    """The rows with (rows back, word) for each free name, where it came last ahead of this; all other words stay.

    Stretches are twins just where these are equal, but for names that look back beyond the beginning of both.
    """
    last = {}
    rows = []
    for row, words in enumerate(stretch):
        items = []
        for at, word in enumerate(words):
            if is_free_word(word):
                # A name that is new looks back beyond the file's beginning, farther than any stretch reaches.
                came, place = last.get(word, (-1, 0))
                items.append((row - came, place))
                last[word] = (row, at)
            else:
                items.append(word)
        rows.append(items)
    return rows


def places_of(files):
    """All (title, row), rising."""
    return [(title, row) for title, rows in sorted(files) for row in range(len(rows))]


def twins_up_to(one, other, most):
    """How many rows, most at the most, twins can have that end with these two rows, as far as these rows tell."""
    if len(one) != len(other):
        return 0
    for mine, yours in zip(one, other):
        if mine != yours:
            if isinstance(mine, str) or isinstance(yours, str):
                return 0
            # In longer stretches one of the names would have come ahead where the other had not.
            most = min(most, mine[0], yours[0])
    return most


def ends_of(files):
    """For each place, as places_of numbers them, a list: how many rows the longest twins have that end there and at
    each place up to itself."""
    rows = [row for title, stretch in sorted(files) for row in looked_back(stretch)]
    places = places_of(files)
    ends = []
    for here in range(len(places)):
        many = []
        for there in range(here + 1):
            inside = places[there][1] > 0 and places[here][1] > 0
            ahead = ends[here - 1][there - 1] if inside else 0
            many.append(twins_up_to(rows[there], rows[here], ahead + 1))
        ends.append(many)
    return ends


def greatest_ends(ends, least):
    """The greatest pairs of at least least rows, each as (there, here, many), by the numbers of their last places."""
    found = []
    for here in range(len(ends)):
        for there in range(here):
            many = ends[here][there]
            # The first row of another file, if that comes next, ends twins of one row at the most.
            longer = here + 1 < len(ends) and ends[here + 1][there + 1] == many + 1
            if many >= least and not longer:
                found.append((there, here, many))
    return found


def begun(place, many):
    """The (title, first) of the many rows that end at a place."""
    title, row = place
    return (title, row - many + 1)


def pairs(files, least=3):
    """All greatest pairs of at least least rows, rising, each as (title, first, other, second, many)."""
    places = places_of(files)
    found = []
    for there, here, many in greatest_ends(ends_of(files), least):
        found.append(begun(places[there], many) + begun(places[here], many) + (many,))
    return sorted(found)
