"""What rows owe to rows that were mended.

Debts are a dict: by the number of each row that owes, (words, mended, names): the words owed, or None where they are
owed without words; the number of the mended row; the renaming from the mended stretch to the one of the row that owes.
Debts are not changed: behind a deed there is a dict of its own.
"""

from kinrows.errors import Clash
from kinrows.families import family
from kinrows.renamings import renamed
from kinrows.twins import renaming


def led_words(words, names):
    """The words with each old led to its new; None, if a name that stays would meet one that is led."""
    try:
        return tuple(renamed([list(words)], names)[0])
    except Clash:
        return None


def led_by_mend(files, title, first, many, at):
    """For each other member of the stretch's family (file, place, renaming): its row as far behind its first one as at
    is behind first, and the renaming from the stretch to it."""
    rows = {other: stretch for other, stretch in files}
    mended = rows[title][first:first + many]
    found = []
    for other, begin in family(files, title, first, many):
        if (other, begin) != (title, first):
            names = renaming(mended, rows[other][begin:begin + many])
            found.append((other, begin + at - first, names))
    return found


def debts_of_mend(debts, mended, words, names_of):
    """The debts behind a mend that gave the row mended these words; names_of has the renaming of each row that the
    mend makes owe, by its number."""
    behind = {number: debts[number] for number in debts if number != mended}
    # Who still owes to the row from an earlier mend owes the new words, by that mend's renaming.
    renewed = {number: debts[number][2] for number in behind if debts[number][1] == mended}
    for number, names in {**renewed, **names_of}.items():
        behind[number] = (led_words(words, names), mended, names)
    return behind


def still_owed(debts, words_of):
    """The debts that aren't over: words_of has the words of each row that is there, by its number."""
    return {number: debts[number] for number in debts
            if number in words_of and debts[number][0] != words_of[number]}
