"""A yard of files: changed by deeds, which can be taken back and done again, and asked for its twins."""

from kinrows.deeds import (
    refuse_day, refuse_no_file, refuse_no_stretch, with_file, with_file_divided, with_files_united, with_row_turned,
    with_rows, with_rows_moved, without_file, without_rows)
from kinrows.errors import NoDeed
from kinrows.states import State, pairs_more


class Yard:
    """Files with titles and rows; pairs are told of at least least rows."""

    def __init__(self, least=3):
        self.least = least
        self.state = State({}, {}, 0, 0, {})
        # The State ahead of the last deed, taking back or doing again: come and gone hold the two against each other.
        self.before = self.state
        self.elder = []
        self.undone = []

    def ahead_of(self, day):
        """The State ahead of a deed of that day; BadDay."""
        refuse_day(day, self.state.last)
        return self.state

    def go(self, state):
        """The yard stands so now."""
        self.before.forget_pairs()
        self.before = self.state
        self.state = state

    def do(self, state):
        """A deed is done that makes the yard stand so; what was taken back can't be done again."""
        self.elder.append(self.state)
        self.undone = []
        self.go(state)

    def file(self, day, title, rows):
        """One file more, of these texts; BadDay, BadTitle, Known, BadRow, Full."""
        state = self.ahead_of(day)
        self.do(state.behind(day, with_file(state.kept, title, rows, state.fresh, day), came=len(rows)))

    def drop(self, day, title):
        """One file less; BadDay, NoTitle."""
        state = self.ahead_of(day)
        self.do(state.behind(day, without_file(state.kept, title)))

    def put(self, day, title, at, rows):
        """Rows more, ahead of the row at; BadDay, NoTitle, NoPlace, NoRows, BadRow, Full."""
        state = self.ahead_of(day)
        self.do(state.behind(day, with_rows(state.kept, title, at, rows, state.fresh, day), came=len(rows)))

    def cut(self, day, title, at, many):
        """Many rows, from at on, are gone; BadDay, NoTitle, NoPlace."""
        state = self.ahead_of(day)
        self.do(state.behind(day, without_rows(state.kept, title, at, many)))

    def turn(self, day, title, at, row):
        """The row at has other words now; BadDay, NoTitle, NoPlace, BadRow."""
        state = self.ahead_of(day)
        self.do(state.behind(day, with_row_turned(state.kept, title, at, row, day)))

    def move(self, day, title, at, many, other, to):
        """Many rows, from at on, go to the file other, ahead of its row to when they are out; BadDay, NoTitle,
        NoPlace, Full."""
        state = self.ahead_of(day)
        self.do(state.behind(day, with_rows_moved(state.kept, title, at, many, other, to)))

    def divide(self, day, title, at, other):
        """The rows from at on are a new file's; BadDay, NoTitle, BadTitle, Known, NoPlace, Full."""
        state = self.ahead_of(day)
        self.do(state.behind(day, with_file_divided(state.kept, title, at, other)))

    def unite(self, day, title, other):
        """The rows of other stand behind those of title, and other is gone; BadDay, NoTitle, Same, Full."""
        state = self.ahead_of(day)
        self.do(state.behind(day, with_files_united(state.kept, title, other)))

    def back(self):
        """The last deed that stands is taken back; NoDeed."""
        if not self.elder:
            raise NoDeed("no deed stands that could be taken back")
        self.undone.append(self.state)
        self.go(self.elder.pop())

    def again(self):
        """The last deed that was taken back is done again; NoDeed."""
        if not self.undone:
            raise NoDeed("no deed was taken back that could be done again")
        self.elder.append(self.state)
        self.go(self.undone.pop())

    def day(self):
        """The day of the last deed that stands, or 0."""
        return self.state.last

    def titles(self):
        """The titles, rising."""
        return sorted(self.state.kept)

    def rows_of(self, title):
        """The rows of a file as the deeds have them; NoTitle."""
        refuse_no_file(self.state.kept, title)
        return self.state.kept[title]

    def rows(self, title):
        """The rows of a file as plain texts; NoTitle."""
        return [" ".join(words) for number, words, since in self.rows_of(title)]

    def numbers(self, title):
        """The numbers of a file's rows; NoTitle."""
        return [number for number, words, since in self.rows_of(title)]

    def since(self, title, first, many):
        """The day since which a stretch stands as it does; NoTitle, NoPlace."""
        refuse_no_stretch(first, many, self.rows_of(title))
        return self.state.stands_since(title, first, many)

    def files(self):
        """All files as a list of pairs (title, stretch), titles rising."""
        return self.state.stretches()

    def pairs(self):
        """The greatest pairs of the files, rising."""
        return list(self.state.greatest_pairs(self.least))

    def come(self):
        """The pairs, by the numbers of their rows, that came by the last deed, taking back or doing again."""
        return pairs_more(self.state, self.before, self.least)

    def gone(self):
        """The pairs, by the numbers of their rows, that went by the last deed, taking back or doing again."""
        return pairs_more(self.before, self.state, self.least)

    def family(self, title, first, many):
        """All (title, first), rising, of the stretch's twins, itself too; NoTitle, NoPlace."""
        return self.state.members(title, first, many)

    def oldest(self, title, first, many):
        """The one of the family that stands since the earliest day, of several the first; NoTitle, NoPlace."""
        state = self.state
        return min(state.members(title, first, many),
                   key=lambda member: (state.stands_since(member[0], member[1], many), member))
