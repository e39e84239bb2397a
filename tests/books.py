"""A plain bookkeeping of a yard: it keeps the deeds that stand, and finds all else by going through them anew.

A deed is a tuple (name, day, further things as the interface has them). A stand is how all stands behind a deed: a
dict of files (by title a list of (number, words)), fresh (the next number), touched (the numbers of the rows that the
deed put or turned) and debts (by number (words or None, number of the mended row, dict of olds to news)).
"""

from kinrows.errors import (
    BadDay, BadRow, BadTitle, Full, KinError, Known, NoDebt, NoPlace, NoRows, NoTitle, Same)
from kinrows.words import is_free, is_name, read
from tests.looks import plain_family, plain_pairs, stretches_in

NOTHING = {"files": {}, "fresh": 0, "touched": [], "debts": {}}
ARGUMENTS = {
    "file": ["new", "rows"], "drop": ["title"], "put": ["title", "at", "rows"], "cut": ["title", "at", "many"],
    "turn": ["title", "at", "row"], "move": ["title", "at", "many", "title", "to"], "divide": ["title", "at", "new"],
    "unite": ["title", "title"], "mend": ["title", "first", "many", "at", "row"], "settle": ["title", "at"],
    "waive": ["title", "at"]}


def read_rows(rows):
    return [tuple(read(row)) for row in rows]


def stretches(files):
    return [(title, [list(words) for number, words in files[title]]) for title in sorted(files)]


def files_behind(files, name, things, fresh):
    """[41 to 44, 46], and the numbers of the rows that were put or turned."""
    files = {title: list(files[title]) for title in files}
    touched = []
    rows = files.get(things[0])
    if name in ("file", "put"):
        new = [(fresh + at, words) for at, words in enumerate(read_rows(things[-1]))]
        touched = [number for number, words in new]
        place = 0 if name == "file" else things[1]
        files.setdefault(things[0], [])[place:place] = new
    elif name == "drop":
        del files[things[0]]
    elif name == "cut":
        del rows[things[1]:things[1] + things[2]]
    elif name == "turn":
        touched = [rows[things[1]][0]]
        rows[things[1]] = (touched[0], tuple(read(things[2])))
    elif name == "move":
        taken = [rows.pop(things[1]) for row in range(things[2])]
        files[things[3]][things[4]:things[4]] = taken
    elif name == "divide":
        files[things[2]] = [rows.pop(things[1]) for row in range(len(rows) - things[1])]
    elif name == "unite":
        rows.extend(files.pop(things[1]))
    return files, touched


def led(words, olds):
    """[59]: the words led by the renaming, or None."""
    stay = [word for word in words if is_free(word) and word not in olds]
    if any(word in olds.values() for word in stay):
        return None
    return tuple(olds.get(word, word) for word in words)


def debts_behind_mend(stand, title, first, many, at, row):
    """[59 to 61], but for debts that are over since the rows have the words."""
    files = stand["files"]
    words, mended = tuple(read(row)), files[title][at][0]
    debts = dict(stand["debts"])
    family = plain_family(stretches(files), title, first, many)
    renewed = {}
    for other, begin in family:
        if (other, begin) != (title, first):
            olds = {}
            for (number, mine), (its, yours) in zip(files[title][first:first + many], files[other][begin:begin + many]):
                olds.update((old, new) for old, new in zip(mine, yours) if is_free(old))
            renewed[files[other][begin + at - first][0]] = olds
    for number in debts:
        if debts[number][1] == mended and number not in renewed:
            renewed[number] = debts[number][2]
    for number, olds in renewed.items():
        debts[number] = (led(words, olds), mended, olds)
    debts.pop(mended, None)
    return debts


def stand_behind(stand, deed):
    name, day, *things = deed
    debts = dict(stand["debts"])
    turns = (name, *things)
    if name == "mend":
        debts = debts_behind_mend(stand, *things)
        turns = ("turn", things[0], *things[3:])
    elif name == "settle":
        owed = debts[stand["files"][things[0]][things[1]][0]][0]
        turns = ("turn", *things, " ".join(owed))
    elif name == "waive":
        del debts[stand["files"][things[0]][things[1]][0]]
    files, touched = files_behind(stand["files"], turns[0], turns[1:], stand["fresh"])
    words_of = {number: words for title in files for number, words in files[title]}
    # [62]
    debts = {number: debt for number, debt in debts.items()
             if number in words_of and words_of[number] != debt[0]}
    came = len(touched) if name in ("file", "put") else 0
    return {"files": files, "fresh": stand["fresh"] + came, "touched": touched, "debts": debts}


def is_number(thing):
    return type(thing) is int


def within(thing, least, most):
    return is_number(thing) and least <= thing <= most


def places_wrong(files, name, things):
    """NoPlace as [45, 58, 63] tell."""
    given = dict(zip(ARGUMENTS[name], things))
    rows = len(files.get(things[0], []))
    if name in ("put", "divide"):
        return not within(given["at"], 0, rows)
    if name in ("turn", "settle", "waive"):
        return not within(given["at"], 0, rows - 1)
    if name in ("cut", "move", "mend"):
        first = given["first"] if name == "mend" else given["at"]
        if not within(first, 0, rows) or not within(given["many"], 1, rows - first):
            return True
    if name == "mend":
        return not within(given["at"], first, first + given["many"] - 1)
    if name == "move":
        rest = len(files[things[3]]) - (given["many"] if things[3] == things[0] else 0)
        return not within(given["to"], 0, rest)
    return False


def is_row(thing):
    try:
        read(thing)
    except BadRow:
        return False
    return True


def is_known(files, thing):
    return any(type(thing) is str and thing == title for title in files)


def refusal_before_full(stand, last, deed):
    name, day, *things = deed
    files = stand["files"]
    if not within(day, last, 100000):
        return BadDay
    for kind, thing in zip(ARGUMENTS[name], things):
        if kind == "title" and not is_known(files, thing):
            return NoTitle
        if kind == "new" and not is_name(thing):
            return BadTitle
        if kind == "new" and is_known(files, thing):
            return Known
    if name == "unite" and things[0] == things[1]:
        return Same
    if places_wrong(files, name, things):
        return NoPlace
    if name == "put" and not things[2]:
        return NoRows
    rows = things[-1] if name in ("file", "put") else things[-1:] if name in ("turn", "mend") else []
    return None if all(is_row(row) for row in rows) else BadRow


def debt_wrong(stand, deed):
    name, day, title, at = deed
    debt = stand["debts"].get(stand["files"][title][at][0])
    return debt is None or name == "settle" and debt[0] is None


def refusal(stand, last, deed):
    """[45, 58, 63]: the class of the first refusal that is due, or None."""
    found = refusal_before_full(stand, last, deed)
    if found is None and deed[0] in ("settle", "waive") and debt_wrong(stand, deed):
        found = NoDebt
    if found is None:
        sizes = [len(rows) for rows in stand_behind(stand, deed)["files"].values()]
        if len(sizes) > 12 or sum(sizes) > 100 or max(sizes, default=0) > 60:
            found = Full
    return found


def beside(stand, one, other):
    numbers = [[number for number, words in rows] for rows in stand["files"].values()]
    return any((one, other) in zip(row, row[1:]) for row in numbers)


class Book:
    """The deeds that stand, and those that were taken back."""

    def __init__(self, least=3):
        self.least = least
        self.deeds = []
        self.undone = []
        # The files ahead of the last deed, taking back or doing again.
        self.before = {}

    def stands(self):
        found = [NOTHING]
        for deed in self.deeds:
            found.append(stand_behind(found[-1], deed))
        return found

    def last(self):
        return self.deeds[-1][1] if self.deeds else 0

    def do(self, deed):
        """Does the deed, a taking back or a doing again; the class of what it is refused with, or None."""
        before = self.stands()[-1]
        if deed == ("back",):
            self.undone.append(self.deeds.pop())
        elif deed == ("again",):
            self.deeds.append(self.undone.pop())
        else:
            refused = refusal(before, self.last(), deed)
            if refused is not None:
                return refused
            self.deeds.append(deed)
            self.undone = []
        self.before = before["files"]
        return None

    def since(self, stands, title, first, many):
        """[48], deed by deed."""
        numbers = [number for number, words in stands[-1]["files"][title][first:first + many]]
        days = []
        for number in numbers:
            days.append([deed[1] for deed, stand in zip(self.deeds, stands[1:]) if number in stand["touched"]][-1])
        for one, other in zip(numbers, numbers[1:]):
            days.append([deed[1] for deed, ahead in zip(self.deeds, stands) if not beside(ahead, one, other)][-1])
        return max(days)

    def numbered(self, files):
        """[50]: the pairs of files by the numbers of their rows."""
        found = []
        for title, first, other, second, many in plain_pairs(stretches(files), self.least):
            both = [tuple(number for number, words in files[name][begin:begin + many])
                    for name, begin in ((title, first), (other, second))]
            found.append(tuple(sorted(both, key=lambda numbers: numbers[0])))
        return sorted(found)

    def told(self):
        """All that a yard is asked for, as everything has it."""
        stands = self.stands()
        files = stands[-1]["files"]
        now, before = self.numbered(files), self.numbered(self.before)
        told = {"day": self.last(), "titles": sorted(files), "files": stretches(files),
                "rows": {title: [" ".join(words) for number, words in files[title]] for title in files},
                "numbers": {title: [number for number, words in files[title]] for title in files},
                "pairs": plain_pairs(stretches(files), self.least),
                "come": [pair for pair in now if pair not in before],
                "gone": [pair for pair in before if pair not in now]}
        each = stretches_in(stretches(files))
        since = {stretch: self.since(stands, *stretch) for stretch in each}
        family = {stretch: plain_family(stretches(files), *stretch) for stretch in each}
        told["since"], told["family"] = since, family
        told["oldest"] = {stretch: min((since[(*member, stretch[2])], member) for member in family[stretch])[1]
                          for stretch in each}
        debts = stands[-1]["debts"]
        told["owed"] = [(title, at, None if debts[number][0] is None else " ".join(debts[number][0]), debts[number][1])
                        for title in sorted(files) for at, (number, words) in enumerate(files[title])
                        if number in debts]
        return told


def everything(yard):
    """All that a yard tells."""
    files = yard.files()
    told = {"day": yard.day(), "titles": yard.titles(), "files": files,
            "rows": {title: yard.rows(title) for title in yard.titles()},
            "numbers": {title: yard.numbers(title) for title in yard.titles()},
            "pairs": yard.pairs(), "come": yard.come(), "gone": yard.gone(),
            "owed": yard.owed() if hasattr(yard, "owed") else []}
    for question in ("since", "family", "oldest"):
        told[question] = {stretch: getattr(yard, question)(*stretch) for stretch in stretches_in(files)}
    return told


def tried(yard, deed):
    """Does a deed; the class of what it is refused with, or what it gives back."""
    name, *things = deed
    try:
        return getattr(yard, name)(*things)
    except KinError as refused:
        return refused.__class__
