"""The refusals: each of its own class, straight under KinError."""


class KinError(ValueError):
    """Something that was handed in or asked for is refused."""


class BadRow(KinError):
    """What was handed in as a row is none."""


class BadWord(KinError):
    """What was handed in as a word is none."""


class BadRenaming(KinError):
    """What was handed in as a renaming is none."""


class Clash(KinError):
    """A name that is not renamed is the new name of another one; the field name is that name."""

    def __init__(self, name):
        super().__init__(f"{name} is a new name, but no old one")
        self.name = name


class NoTitle(KinError):
    """No file has that title."""


class NoPlace(KinError):
    """The file has no such place or stretch."""


class BadForm(KinError):
    """What was handed in as a form is none."""


class Shape(KinError):
    """Forms are not of one shape; the field row is the first row at which they differ."""

    def __init__(self, row):
        super().__init__(f"not of one shape from row {row} on")
        self.row = row


class NoRows(KinError):
    """There are no rows where some are needed."""


class BadFilling(KinError):
    """The words are not just as many as the form has holes."""


class TooLong(KinError):
    """A stretch has more rows than can be laid."""


class BadDay(KinError):
    """The day is none, or it is less than the yard's."""


class BadTitle(KinError):
    """What was handed in as a title is none."""


class Known(KinError):
    """A file has that title already."""


class Same(KinError):
    """A file cannot be united with itself."""


class Full(KinError):
    """The yard would have more files or rows than it may."""


class NoDeed(KinError):
    """There is no deed to take back or to do again."""


class NoDebt(KinError):
    """The row owes nothing that could be settled or waived."""


class Wide(KinError):
    """The form has more holes than one call can fill."""


class BadName(KinError):
    """What was handed in as a free name is none."""


class Overlap(KinError):
    """A spot does not lie behind the part of the one ahead of it."""


class NoFit(KinError):
    """A part of the stretch does not fit the form."""


class TooMany(KinError):
    """More rows are unfolded than may be."""


class BadCall(KinError):
    """A call has no free name as its second word."""


class NoForm(KinError):
    """There is no form of the name that is called; the field name is that name."""

    def __init__(self, name):
        super().__init__(f"there is no form {name}")
        self.name = name


class Ring(KinError):
    """A form is called inside itself; the field name is its name."""

    def __init__(self, name):
        super().__init__(f"the form {name} is called inside itself")
        self.name = name
