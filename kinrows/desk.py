"""A desk: it is told commands as texts, does them with a yard of its own, and answers by rows."""

from kinrows.commands import command_of
from kinrows.deeds import refuse_day
from kinrows.errors import (
    BadDay, BadName, BadRow, BadTitle, Full, Known, NoDebt, NoDeed, NoPlace, NoRows, NoTitle, Same, TooLong, Wide)
from kinrows.mends import MendYard
from kinrows.told import told_rows


def do_deed(yard, day, deed, rows):
    """Does a deed on that day, a taking back or a doing again; tells whether it was one, or its refusal."""
    match deed:
        case ["back"]:
            yard.back()
        case ["again"]:
            yard.again()
        case ["file", title]:
            yard.file(day, title, rows)
        case ["drop", title]:
            yard.drop(day, title)
        case ["put", title, at]:
            yard.put(day, title, at, rows)
        case ["cut", title, at, many]:
            yard.cut(day, title, at, many)
        case ["turn", title, at]:
            yard.turn(day, title, at, rows[0])
        case ["move", title, at, many, other, to]:
            yard.move(day, title, at, many, other, to)
        case ["divide", title, at, other]:
            yard.divide(day, title, at, other)
        case ["unite", title, other]:
            yard.unite(day, title, other)
        case ["mend", title, first, many, at]:
            yard.mend(day, title, first, many, at, rows[0])
        case ["settle", title, at]:
            yard.settle(day, title, at)
        case ["waive", title, at]:
            yard.waive(day, title, at)
        case _:
            return False
    return True


class Desk:
    """A MendYard and the day on which further deeds are done."""

    def __init__(self, least=3):
        self.yard = MendYard(least)
        self.today = 0

    def begin(self, day):
        """Further deeds are done on that day; BadDay."""
        refuse_day(day, self.yard.day())
        self.today = day
        return [f"day {day}"]

    def answer(self, command, rows):
        """Does what a command says and answers it, or its refusal."""
        if command[0] == "day":
            return self.begin(command[1])
        if do_deed(self.yard, self.today, command, rows):
            return [f"done {len(self.yard.come())} {len(self.yard.gone())}"]
        return told_rows(self.yard, command)

    def say(self, text):
        """The rows by which the desk answers a text."""
        command = command_of(text)
        if command is None:
            return ["what"]
        try:
            return self.answer(command[0], command[1])
        except BadDay:
            return ["no day"]
        except NoTitle:
            return ["no file"]
        except BadTitle:
            return ["no title"]
        except Known:
            return ["no known"]
        except Same:
            return ["no same"]
        except NoPlace:
            return ["no place"]
        except NoRows:
            return ["no rows"]
        except BadRow:
            return ["no row"]
        except Full:
            return ["no full"]
        except NoDeed:
            return ["no deed"]
        except NoDebt:
            return ["no debt"]
        except TooLong:
            return ["no long"]
        except Wide:
            return ["no wide"]
        except BadName:
            return ["no name"]
