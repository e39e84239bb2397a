"""The deeds with files: each is told the files ahead of it and tells the files behind it, or refuses.

Files are a dict of titles to lists of rows, each row a tuple (number, words, day), words a tuple, the day that of the
last deed that put or turned the row. A deed changes none of the files that it is told: those behind it are a dict of
its own, whose lists of rows are the elder ones where they are the same, so nobody changes a list either.
"""

from kinrows.errors import BadDay, BadTitle, Full, Known, NoPlace, NoRows, NoTitle, Same
from kinrows.places import is_stretch, is_whole
from kinrows.words import is_name, read

LAST_DAY = 100000
MOST_FILES = 12
MOST_ROWS = 60
MOST_ROWS_IN_ALL = 100


def refuse_day(day, least):
    """BadDay of a day that is none, or less than the least."""
    if not is_whole(day) or not least <= day <= LAST_DAY:
        raise BadDay("a day is a whole number from 0 to 100000, not less than the last deed's")


def refuse_no_file(files, title):
    """NoTitle of what is no file's title."""
    # What is handed in may be of a kind that can't be looked up.
    if not isinstance(title, str) or title not in files:
        raise NoTitle("no file has that title")


def refuse_new_title(files, title):
    """BadTitle of what is no title, then Known of one that a file has."""
    if not is_name(title):
        raise BadTitle("a title is a name of at most 20 signs")
    if title in files:
        raise Known("a file has that title already")


def refuse_no_place(at, last):
    """NoPlace of what isn't a whole number from 0 to the last."""
    if not is_whole(at) or not 0 <= at <= last:
        raise NoPlace("there is no such place")


def refuse_no_stretch(at, many, rows):
    """NoPlace of what is no stretch of these rows."""
    if not is_stretch(at, many, len(rows)):
        raise NoPlace("there is no such stretch")


def refuse_no_place_within(at, first, many):
    """NoPlace of what is no place of the stretch of many rows from first on."""
    if not is_whole(at) or not first <= at < first + many:
        raise NoPlace("the stretch has no such place")


def refuse_full(files):
    """Full of more files or rows than there may be."""
    sizes = [len(files[title]) for title in files]
    if len(sizes) > MOST_FILES or sum(sizes) > MOST_ROWS_IN_ALL or any(size > MOST_ROWS for size in sizes):
        raise Full("there are at most 12 files, 60 rows in a file and 100 rows in all")


def new_rows(texts, number, day):
    """The rows of these texts, numbered on from number; BadRow of a text that is no row."""
    return [(number + at, tuple(read(text)), day) for at, text in enumerate(texts)]


def changed(files, title, rows):
    """The files, one of them with these rows now, or one more; Full."""
    behind = {**files, title: rows}
    refuse_full(behind)
    return behind


def without_file(files, title):
    """drop; NoTitle."""
    refuse_no_file(files, title)
    return {other: files[other] for other in files if other != title}


def with_file(files, title, texts, number, day):
    """file; BadTitle, Known, BadRow, Full."""
    refuse_new_title(files, title)
    return changed(files, title, new_rows(texts, number, day))


def with_rows(files, title, at, texts, number, day):
    """put; NoTitle, NoPlace, NoRows, BadRow, Full."""
    refuse_no_file(files, title)
    rows = files[title]
    refuse_no_place(at, len(rows))
    if not texts:
        raise NoRows("there are no rows to be put")
    return changed(files, title, rows[:at] + new_rows(texts, number, day) + rows[at:])


def without_rows(files, title, at, many):
    """cut; NoTitle, NoPlace."""
    refuse_no_file(files, title)
    rows = files[title]
    refuse_no_stretch(at, many, rows)
    return changed(files, title, rows[:at] + rows[at + many:])


def with_row_turned(files, title, at, text, day):
    """turn; NoTitle, NoPlace, BadRow."""
    refuse_no_file(files, title)
    rows = files[title]
    refuse_no_stretch(at, 1, rows)
    return changed(files, title, rows[:at] + new_rows([text], rows[at][0], day) + rows[at + 1:])


def with_rows_moved(files, title, at, many, other, to):
    """move; NoTitle of title, of other, NoPlace, Full."""
    refuse_no_file(files, title)
    refuse_no_file(files, other)
    behind = without_rows(files, title, at, many)
    rest = behind[other]
    refuse_no_place(to, len(rest))
    return changed(behind, other, rest[:to] + files[title][at:at + many] + rest[to:])


def with_file_divided(files, title, at, other):
    """divide; NoTitle of title, BadTitle and Known of other, NoPlace, Full."""
    refuse_no_file(files, title)
    refuse_new_title(files, other)
    rows = files[title]
    refuse_no_place(at, len(rows))
    return changed(changed(files, title, rows[:at]), other, rows[at:])


def with_files_united(files, title, other):
    """unite; NoTitle of title, of other, Same, Full."""
    refuse_no_file(files, title)
    refuse_no_file(files, other)
    if title == other:
        raise Same("a file can't be united with itself")
    return changed(without_file(files, other), title, files[title] + files[other])


def beside_days(files, ahead, day):
    """By the numbers of each two rows side by side since when they stand so: where it was so ahead of a deed since
    the day told there, else since the deed's day."""
    days = {}
    for title in files:
        rows = files[title]
        for first, second in zip(rows, rows[1:]):
            beside = (first[0], second[0])
            days[beside] = ahead.get(beside, day)
    return days
