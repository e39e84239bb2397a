"""What a yard tells, written as rows."""

from kinrows.deeds import refuse_no_stretch
from kinrows.families import rows_of
from kinrows.folds import fold
from kinrows.forms import form_of, is_hole
from kinrows.laid import laid
from kinrows.spots import apart


def row_of(things):
    """Texts and numbers with one blank between two of them."""
    return " ".join([str(thing) for thing in things])


def rows_of_each(lists):
    return [row_of(things) for things in lists]


def numbered_rows(found):
    """The pairs that came or went, each by the numbers of its rows."""
    return [f"{row_of(one)} = {row_of(other)}" for one, other in found]


def form_of_members(files, members, many):
    """The form of a family's stretches."""
    rows = {title: stretch for title, stretch in files}
    return form_of([rows[title][first:first + many] for title, first in members])


def form_rows(form):
    return [" ".join([f"?{item}" if is_hole(item) else item for item in row]) for row in form]


def part_of(rows, first, many):
    """A stretch of these rows; NoPlace."""
    refuse_no_stretch(first, many, rows)
    return rows[first:first + many]


def laid_rows(files, one, other, most):
    """How two stretches, each (title, first, many), are laid; NoTitle of either, NoPlace of either, TooLong."""
    ones = rows_of(files, one[0])
    others = rows_of(files, other[0])
    found = laid(part_of(ones, one[1], one[2]), part_of(others, other[1], other[2]), most)
    return ["none"] if found is None else rows_of_each(found)


def debt_row(debt):
    """A row that owes: where it is, to whom it owes, and what."""
    title, at, text, mended = debt
    if text is None:
        return f"{title} {at} {mended} ?"
    return f"{title} {at} {mended} = {text}".rstrip(" ")


def folded_rows(files, title, members, many, name):
    """The rows of a file with calls of the name in the place of as many members in it as can stand apart; Wide,
    BadName."""
    spots = apart([first for other, first in members if other == title], many)
    form = form_of_members(files, members, many)
    return rows_of_each(fold(rows_of(files, title), spots, name, form))


def told_rows(yard, question):
    """The rows that a question is answered by, or its refusal."""
    match question:
        case ["titles"]:
            return yard.titles()
        case ["show", title]:
            return yard.rows(title)
        case ["numbers", title]:
            return [str(number) for number in yard.numbers(title)]
        case ["since", title, first, many]:
            return [f"day {yard.since(title, first, many)}"]
        case ["pairs"]:
            return rows_of_each(yard.pairs())
        case ["come"]:
            return numbered_rows(yard.come())
        case ["gone"]:
            return numbered_rows(yard.gone())
        case ["family", title, first, many]:
            return rows_of_each(yard.family(title, first, many))
        case ["oldest", title, first, many]:
            return [row_of(yard.oldest(title, first, many))]
        case ["form", title, first, many]:
            return form_rows(form_of_members(yard.files(), yard.family(title, first, many), many))
        case ["laid", title, first, many, other, second, more, most]:
            return laid_rows(yard.files(), (title, first, many), (other, second, more), most)
        case ["owed"]:
            return [debt_row(debt) for debt in yard.owed()]
        case ["fold", title, first, many, name]:
            return folded_rows(yard.files(), title, yard.family(title, first, many), many, name)
