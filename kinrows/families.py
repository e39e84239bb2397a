"""Families: all the twins of a stretch among files, and the closed families, which can't be made longer as a whole."""

from kinrows.errors import NoPlace, NoTitle
from kinrows.pairs import begun, ends_of, greatest_ends, places_of
from kinrows.places import is_stretch
from kinrows.twins import mark


def rows_of(files, title):
    """The rows of the file of that title; NoTitle, if there is none."""
    # Only a text is held against the titles: what is handed in may be of any kind.
    if isinstance(title, str):
        for name, rows in files:
            if name == title:
                return rows
    raise NoTitle("no file has that title")


def family(files, title, first, many):
    """All (title, first), rising, of the stretch's twins, itself too; NoTitle, then NoPlace."""
    rows = rows_of(files, title)
    if not is_stretch(first, many, len(rows)):
        raise NoPlace("the file has no such stretch")
    wanted = mark(rows[first:first + many])
    members = []
    for name, others in sorted(files):
        for begin in range(len(others) - many + 1):
            if mark(others[begin:begin + many]) == wanted:
                members.append((name, begin))
    return members


def twins_ending(ends, here, many):
    """The numbers of all places at which twins of the many rows that end here end, here too."""
    return [there for there in range(len(ends)) if ends[max(here, there)][min(here, there)] >= many]


def families(files, least=3):
    """All closed families of at least least rows, each as (many, members), in the order of their first members."""
    places = places_of(files)
    ends = ends_of(files)
    told = {}
    found = []
    # A family is closed just where two of its members are a greatest pair: if each two could be made longer on one
    # side or the other, then on one of the sides all could.
    for there, here, many in greatest_ends(ends, least):
        if (there, many) not in told:
            members = twins_ending(ends, there, many)
            for member in members:
                told[(member, many)] = True
            found.append((many, [begun(places[member], many) for member in members]))
    return sorted(found, key=lambda row: (row[1][0], row[0]))
