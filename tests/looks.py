"""Plain looks at what the document says, held against the program; and stretches and files to look at."""

import functools
import random

from kinrows.words import is_free, read


def stretch_of(*rows):
    return [read(row) for row in rows]


def places(stretch):
    return [(row, word) for row in range(len(stretch)) for word in range(len(stretch[row]))]


def at(stretch, place):
    return stretch[place[0]][place[1]]


def same_shape(one, other):
    return [len(row) for row in one] == [len(row) for row in other]


def frozen(stretch):
    return tuple(tuple(row) for row in stretch)


def are_twins(one, other):
    """[10], each two places of it."""
    return are_frozen_twins(frozen(one), frozen(other))


# The same stretches are looked at again and again where files change row by row.
@functools.lru_cache(maxsize=200000)
def are_frozen_twins(one, other):
    if not same_shape(one, other):
        return False
    free = []
    for place in places(one):
        if is_free(at(one, place)) and is_free(at(other, place)):
            free.append((at(one, place), at(other, place)))
        elif at(one, place) != at(other, place):
            return False
    return all((a == c) == (b == d) for a, b in free for c, d in free)


def stretches_in(files):
    """All (title, first, many) of one row at least."""
    return [(title, first, many) for title, rows in files for first in range(len(rows))
            for many in range(1, len(rows) - first + 1)]


def rows_at(files, title, first, many):
    """The stretch, or None if it isn't inside its file."""
    rows = dict(files)[title]
    return rows[first:first + many] if first >= 0 and first + many <= len(rows) else None


def twins_at(files, one, other, ahead=0, behind=0):
    """Whether two (title, first, many) are twins with as many rows more; False where there aren't such rows."""
    both = [rows_at(files, title, first - ahead, many + ahead + behind) for title, first, many in (one, other)]
    return None not in both and are_twins(*both)


def plain_pairs(files, least):
    """[17, 18] by a look at each two stretches."""
    found = []
    for one in stretches_in(files):
        for other in stretches_in(files):
            if one[:2] < other[:2] and one[2] == other[2] >= least and twins_at(files, one, other):
                if not twins_at(files, one, other, ahead=1) and not twins_at(files, one, other, behind=1):
                    found.append((*one[:2], *other[:2], one[2]))
    return sorted(found)


def plain_family(files, title, first, many):
    """[21] by a look at each stretch."""
    here = (title, first, many)
    return sorted(there[:2] for there in stretches_in(files) if there[2] == many and twins_at(files, here, there))


def can_grow(files, many, members, **more):
    each = [(title, first, many) for title, first in members]
    return all(twins_at(files, one, other, **more) for one in each for other in each)


def plain_families(files, least):
    """[23] by a look at the family of each stretch."""
    found = []
    for title, first, many in stretches_in(files):
        members = plain_family(files, title, first, many)
        if many >= least and len(members) > 1 and members[0] == (title, first):
            if not can_grow(files, many, members, ahead=1) and not can_grow(files, many, members, behind=1):
                found.append((many, members))
    return sorted(found, key=lambda told: (told[1][0], told[0]))


def any_rows(chance, words, rows, most_words):
    return [[chance.choice(words) for word in range(chance.randrange(most_words + 1))] for row in range(rows)]


def any_copy(chance, rows, names):
    """The rows with their names among these changed alike."""
    changed = dict(zip(names, chance.sample(names, len(names))))
    return [[changed.get(word, word) for word in row] for row in rows]


def any_files(seed, most_rows=9):
    """A few small files with rows copied about, names changed alike, and some words changed behind that."""
    chance = random.Random(seed)
    names = ["a", "b", "c"]
    words = names + chance.choice([[], ["if"], ["1", "+"], ["if", "end", "7"]])
    files = []
    for title in chance.sample(["a", "b", "A", "use", "z9"], chance.randrange(1, 4)):
        rows = any_rows(chance, words, chance.randrange(most_rows + 1), chance.choice([1, 2, 3]))
        source = rows + [row for other, others in files for row in others]
        first = chance.randrange(len(source) + 1)
        rows += any_copy(chance, source[first:first + chance.randrange(6)], names)
        if rows and chance.random() < 0.5:
            chance.choice(rows).append(chance.choice(words))
        files.append((title, rows[:most_rows]))
    return files


def is_hole(item):
    return type(item) is int


def put_under(form, items):
    """A form with item k at each place of its hole k."""
    return [[items[item] if is_hole(item) else item for item in row] for row in form]


def plain_holes(form):
    return sorted({item for row in form for item in row if is_hole(item)})


def numbered(rows):
    """The rows with whatever stands for holes, all that are no texts, numbered in the order of their comings."""
    holes = []
    for row in rows:
        for item in row:
            if not isinstance(item, str) and item not in holes:
                holes.append(item)
    return [[item if isinstance(item, str) else holes.index(item) for item in row] for row in rows]


def any_form(chance, shape, words, holes):
    """A form of that shape with these words and at most so many holes."""
    rows = [[chance.choice(words + list(range(holes))) for item in range(many)] for many in shape]
    return numbered(rows)
