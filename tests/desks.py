"""A plain desk: the document's own list of commands read as patterns, and a yard that is asked by hand."""

import re

from kinrows.errors import (
    BadDay, BadName, BadRow, BadTitle, Full, KinError, Known, NoDebt, NoDeed, NoPlace, NoRows, NoTitle, Same, TooLong,
    Wide)
from kinrows.folds import fold
from kinrows.forms import form_of
from kinrows.laid import laid
from kinrows.mends import MendYard
from kinrows.spots import apart

DEEDS = """back; again; file T; drop T; put T AT; cut T AT MANY; turn T AT; move T AT MANY T2 TO; divide T AT T2;
unite T T2; mend T FIRST MANY AT; settle T AT; waive T AT"""
QUESTIONS = """titles; show T; numbers T; since T FIRST MANY; pairs; come; gone; family T FIRST MANY;
oldest T FIRST MANY; form T FIRST MANY; laid T FIRST MANY T2 SECOND MANY2 MOST; owed; fold T FIRST MANY NAME"""
WORDS = {BadDay: "day", NoTitle: "file", BadTitle: "title", Known: "known", Same: "same", NoPlace: "place",
         NoRows: "rows", BadRow: "row", Full: "full", NoDeed: "deed", NoDebt: "debt", TooLong: "long", Wide: "wide",
         BadName: "name"}


def commands():
    return [line.split() for line in re.split(r";\s*", f"day DAY; {DEEDS}; {QUESTIONS}")]


def pattern_of(pieces):
    kinds = {"T": r"([^ ]+)", "T2": r"([^ ]+)", "NAME": r"([^ ]+)", "MOST": r"([0-3])"}
    return " *" + " +".join([pieces[0]] + [kinds.get(piece, r"(0|[1-9][0-9]{0,8})") for piece in pieces[1:]]) + " *"


def taken(text):
    """(first piece, things, rows), or None of what is no command."""
    first, *rows = text.split("\n")
    for pieces in commands():
        found = re.fullmatch(pattern_of(pieces), first)
        if found:
            many = {"file": range(201), "put": range(201), "turn": [1], "mend": [1]}.get(pieces[0], [0])
            things = [thing if piece in ("T", "T2", "NAME") else int(thing)
                      for piece, thing in zip(pieces[1:], found.groups())]
            return (pieces[0], things, rows) if len(rows) in many else None
    return None


class PlainDesk:
    def __init__(self, least=3):
        self.yard = MendYard(least)
        self.today = 0

    def say(self, text):
        command = taken(text)
        if command is None:
            return ["what"]
        try:
            return self.answer(*command)
        except KinError as refusal:
            return [f"no {WORDS[refusal.__class__]}"]

    def answer(self, word, things, rows):
        if word == "day":
            if things[0] > 100000 or things[0] < self.yard.day():
                raise BadDay()
            self.today = things[0]
            return [f"day {things[0]}"]
        if f" {word} " in f" {re.sub(r'[^a-z]', ' ', DEEDS)} ":
            more = [rows] if word in ("file", "put") else rows
            getattr(self.yard, word)(*([] if word in ("back", "again") else [self.today]), *things, *more)
            return ["done %d %d" % (len(self.yard.come()), len(self.yard.gone()))]
        return getattr(self, "tell_" + word, self.tell_each)(word, *things)

    def tell_each(self, word, *things):
        found = getattr(self.yard, "rows" if word == "show" else word)(*things)
        return [" ".join(map(str, row)) if isinstance(row, tuple) else str(row) for row in found]

    def tell_since(self, word, *things):
        return ["day %d" % self.yard.since(*things)]

    def tell_oldest(self, word, *things):
        return ["%s %d" % self.yard.oldest(*things)]

    def tell_come(self, word):
        return [" ".join([*map(str, one), "=", *map(str, other)]) for one, other in getattr(self.yard, word)()]

    tell_gone = tell_come

    def form(self, title, first, many):
        members = self.yard.family(title, first, many)
        return members, form_of([dict(self.yard.files())[other][at:at + many] for other, at in members])

    def tell_form(self, word, *things):
        return [" ".join("?%d" % item if isinstance(item, int) else item for item in row)
                for row in self.form(*things)[1]]

    def tell_laid(self, word, title, first, many, other, second, more, most):
        for name in (title, other):
            self.yard.rows(name)
        for stretch in ((title, first, many), (other, second, more)):
            self.yard.since(*stretch)
        files = dict(self.yard.files())
        found = laid(files[title][first:first + many], files[other][second:second + more], most)
        return ["none"] if found is None else ["%d %d" % pair for pair in found]

    def tell_owed(self, word):
        ends = {None: "?", "": "="}
        return [f"{title} {at} {number} {ends.get(text, f'= {text}')}" for title, at, text, number in self.yard.owed()]

    def tell_fold(self, word, title, first, many, name):
        members, form = self.form(title, first, many)
        spots = apart([at for other, at in members if other == title], many)
        return [" ".join(row) for row in fold(dict(self.yard.files())[title], spots, name, form)]
