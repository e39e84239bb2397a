"""The commands of the desk: a text taken apart to a command and the rows behind it."""

from kinrows.words import is_figure

# The kinds of the pieces behind the first one: t for any piece, n for a number, m for a number up to 3.
KINDS = {
    "day": "n", "back": "", "again": "", "file": "t", "drop": "t", "put": "tn", "cut": "tnn", "turn": "tn",
    "move": "tnntn", "divide": "tnt", "unite": "tt", "mend": "tnnn", "settle": "tn", "waive": "tn",
    "titles": "", "show": "t", "numbers": "t", "since": "tnn", "pairs": "", "come": "", "gone": "", "family": "tnn",
    "oldest": "tnn", "form": "tnn", "laid": "tnntnnm", "owed": "", "fold": "tnnt"}
WITH_ANY_ROWS = ("file", "put")
WITH_ONE_ROW = ("turn", "mend")
MOST_FIGURES = 9
MOST_LEFT_OUT = 3


def number_of(piece):
    """The number that a piece is, or None."""
    if len(piece) > MOST_FIGURES or not all(is_figure(sign) for sign in piece):
        return None
    return None if piece[0] == "0" and piece != "0" else int(piece)


def thing_of(piece, kind):
    """The title, name or number that a piece is, or None if it isn't of that kind."""
    if kind == "t":
        return piece
    number = number_of(piece)
    if kind == "m" and number is not None and number > MOST_LEFT_OUT:
        return None
    return number


def rows_fit(word, many):
    """Whether so many rows may stand behind the command of this first piece."""
    if word in WITH_ANY_ROWS:
        return True
    return many == (1 if word in WITH_ONE_ROW else 0)


def command_of(text):
    """The command of a text as ([first piece, title, name or number ..], rows behind it); None, if it is none."""
    first, *rows = text.split("\n")
    pieces = [piece for piece in first.split(" ") if piece]
    if not pieces or pieces[0] not in KINDS or not rows_fit(pieces[0], len(rows)):
        return None
    kinds = KINDS[pieces[0]]
    if len(pieces) != len(kinds) + 1:
        return None
    things = [thing_of(piece, kind) for piece, kind in zip(pieces[1:], kinds)]
    return None if None in things else (pieces[:1] + things, rows)
