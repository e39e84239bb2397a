"""How a yard stands between two deeds.

Nothing that a State holds is changed: a deed makes another State, so that deeds are taken back and done again by going
from one to the other.
"""

from kinrows.debts import still_owed
from kinrows.deeds import beside_days
from kinrows.families import family
from kinrows.pairs import pairs


class State:
    """The files, as the deeds have them; since when rows stand side by side; the number that the next row gets; the
    day of the last deed; the debts."""

    def __init__(self, kept, besides, fresh, last, debts):
        self.kept = kept
        self.besides = besides
        self.fresh = fresh
        self.last = last
        self.debts = debts
        self.found = None

    def behind(self, day, kept, came=0, debts=None):
        """The State behind a deed of that day: the files are these, and so many rows came in. Debts may be told that
        are owed besides the deed; those that it brings to an end are over."""
        owing = self.debts if debts is None else debts
        words_of = {number: words for title in kept for number, words, since in kept[title]}
        besides = beside_days(kept, self.besides, day)
        return State(kept, besides, self.fresh + came, day, still_owed(owing, words_of))

    def stretches(self):
        """The files as a list of pairs (title, stretch), titles rising."""
        return [(title, [list(words) for number, words, since in self.kept[title]]) for title in sorted(self.kept)]

    def numbers_at(self, title, first, many):
        """The numbers of the rows of a stretch."""
        return tuple([row[0] for row in self.kept[title][first:first + many]])

    def stands_since(self, title, first, many):
        """The last day on which a row of the stretch, or two side by side, came to be as they are."""
        days = [day for number, words, day in self.kept[title][first:first + many]]
        numbers = self.numbers_at(title, first, many)
        return max(days + [self.besides[beside] for beside in zip(numbers, numbers[1:])])

    def members(self, title, first, many):
        """The family of a stretch; NoTitle, then NoPlace."""
        return family(self.stretches(), title, first, many)

    def greatest_pairs(self, least):
        """The greatest pairs; a State is asked with one and the same least, so it looks for them once."""
        if self.found is None:
            self.found = pairs(self.stretches(), least)
        return self.found

    def forget_pairs(self):
        """Of the many States that are kept for taking back only the last ones are asked for their pairs."""
        self.found = None

    def numbered_pairs(self, least):
        """The greatest pairs by the numbers of their rows, the one with the lesser first number ahead: a dict of
        them to True."""
        found = {}
        for title, first, other, second, many in self.greatest_pairs(least):
            both = [self.numbers_at(title, first, many), self.numbers_at(other, second, many)]
            found[tuple(sorted(both))] = True
        return found


def pairs_more(state, than, least):
    """The pairs, by the numbers of their rows, that stand in the one State and not in the other, rising."""
    others = than.numbered_pairs(least)
    return sorted([pair for pair in state.numbered_pairs(least) if pair not in others])
