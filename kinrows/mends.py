"""A yard that knows which rows owe a mend: where one copy is mended, the others ought to be."""

from kinrows.debts import debts_of_mend, led_by_mend
from kinrows.deeds import refuse_no_place_within, refuse_no_stretch, with_row_turned
from kinrows.errors import NoDebt
from kinrows.yards import Yard


class MendYard(Yard):
    """A Yard with the deeds mend, settle and waive besides."""

    def mend(self, day, title, first, many, at, row):
        """The row at of a stretch has other words now, and its like in each other member of the stretch's family owes
        them; BadDay, NoTitle, NoPlace, BadRow."""
        state = self.ahead_of(day)
        rows = self.rows_of(title)
        refuse_no_stretch(first, many, rows)
        refuse_no_place_within(at, first, many)
        kept = with_row_turned(state.kept, title, at, row, day)
        number, words, since = kept[title][at]
        names_of = {}
        for other, place, names in led_by_mend(state.stretches(), title, first, many, at):
            names_of[state.kept[other][place][0]] = names
        self.do(state.behind(day, kept, debts=debts_of_mend(state.debts, number, words, names_of)))

    def number_at(self, title, at):
        """The number of a row; NoTitle, NoPlace."""
        rows = self.rows_of(title)
        refuse_no_stretch(at, 1, rows)
        return rows[at][0]

    def settle(self, day, title, at):
        """The row at has the words now that it owes; BadDay, NoTitle, NoPlace, NoDebt."""
        state = self.ahead_of(day)
        number = self.number_at(title, at)
        if number not in state.debts or state.debts[number][0] is None:
            raise NoDebt("the row owes no words")
        text = " ".join(state.debts[number][0])
        self.do(state.behind(day, with_row_turned(state.kept, title, at, text, day)))

    def waive(self, day, title, at):
        """The row at owes nothing any more; BadDay, NoTitle, NoPlace, NoDebt."""
        state = self.ahead_of(day)
        number = self.number_at(title, at)
        if number not in state.debts:
            raise NoDebt("the row owes nothing")
        debts = {other: state.debts[other] for other in state.debts if other != number}
        self.do(state.behind(day, state.kept, debts=debts))

    def owed(self):
        """All (title, at, text, number), rising, of the rows that owe: the words owed, or None, and the number of the
        mended row."""
        debts = self.state.debts
        found = []
        for title in self.titles():
            for at, number in enumerate(self.numbers(title)):
                if number in debts:
                    words, mended, names = debts[number]
                    found.append((title, at, None if words is None else " ".join(words), mended))
        return found
