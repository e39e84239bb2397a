"""Yards: promises 40 to 53, held against a plain bookkeeping of all deeds and a plain look at all stretches."""

import inspect
import itertools
import random
import unittest

from kinrows.errors import (
    BadDay, BadRow, BadTitle, Full, Known, NoDeed, NoPlace, NoRows, NoTitle, Same)
from kinrows.mends import MendYard
from kinrows.yards import Yard
from tests.books import Book, everything, refusal, tried
from tests.chances import any_deed, any_step
from tests.things import Odd, odd_lists, odd_things

DEEDS = ["file", "drop", "put", "cut", "turn", "move", "divide", "unite"]
NO_WHOLE = [thing for thing in odd_things() if type(thing) is not int] + odd_lists() + ["", "0", "a"]
NO_TITLES = odd_things() + odd_lists() + ["", "zz", "A", "a ", "1", "a" * 21]
BAD_TITLES = odd_things() + odd_lists() + ["", " ", "a ", "1", "1a", "+", "a b", "a" * 21, "a\n", "\t"]
BAD_ROWS = odd_things() + odd_lists() + ["a\n", "\t", "+" * 31, "a" * 21, "1" * 21, " " * 1001]


def yard_of(files, least=3, day=0, kind=Yard):
    """A yard of a dict of titles to texts."""
    yard = kind(least)
    for title in files:
        yard.file(day, title, files[title])
    return yard


def three_files(kind=Yard):
    """Numbers 0 to 2 in a, 3 and 4 in b, none in c; something that can be done again."""
    yard = yard_of({"a": ["x = 1", "if x", "end"], "b": ["y = 1", "if y"], "c": []}, least=2, day=5, kind=kind)
    yard.turn(7, "a", 0, "7")
    yard.back()
    return yard


def numbers(yard):
    return {title: yard.numbers(title) for title in yard.titles()}


class SequenceCase(unittest.TestCase):
    """Yards held against the plain bookkeeping."""

    def hold(self, yard, book, deed):
        self.assertIs(tried(yard, deed), book.do(deed), deed)
        told, wanted = everything(yard), book.told()
        for question in wanted:
            self.assertEqual(told[question], wanted[question], (question, deed, book.deeds))
        return told

    def hold_back_and_again(self, yard, chance, names):
        """Does 25 deeds, takes all back and does all again."""
        told = []
        while len(told) < 25:
            before = everything(yard)
            if tried(yard, any_deed(chance, yard, 14, names)) is None:
                told.append((before, everything(yard)))
        for before, behind in reversed(told):
            yard.back()
            # All is as ahead of the deed, but for come and gone, which tell of the taking back.
            self.assertEqual(everything(yard), {**before, "come": behind["gone"], "gone": behind["come"]})
        self.assertIs(tried(yard, ("back",)), NoDeed)
        self.assertEqual((yard.day(), yard.titles(), yard.pairs()), (0, [], []))
        for before, behind in told:
            yard.again()
            self.assertEqual(everything(yard), behind)
        self.assertIs(tried(yard, ("again",)), NoDeed)


class SequenceTest(SequenceCase):
    def test_long_sequences(self):
        for seed in range(60):
            chance = random.Random(seed)
            least = chance.choice([1, 1, 2, 3])
            yard, book = Yard(least), Book(least)
            for step in range(30):
                deed = any_step(chance, yard, 12, DEEDS, len(book.deeds), len(book.undone))
                self.hold(yard, book, deed)

    def test_all_taken_back_and_done_again(self):
        for seed in range(15):
            self.hold_back_and_again(Yard(2), random.Random(seed), DEEDS)

    def test_numbers_are_given_again_only_behind_a_taking_back(self):
        yard = Yard()
        yard.file(0, "a", ["x", "y"])
        yard.cut(0, "a", 1, 1)
        yard.put(0, "a", 0, ["z", "z"])
        self.assertEqual(yard.numbers("a"), [2, 3, 0])
        yard.drop(0, "a")
        yard.file(0, "a", ["x"])
        self.assertEqual(yard.numbers("a"), [4])
        yard.back()
        yard.file(0, "b", ["x", "x"])
        self.assertEqual(yard.numbers("b"), [4, 5])
        for deed in range(5):
            yard.back()
        self.assertEqual(yard.titles(), [])
        yard.file(0, "c", ["x"])
        self.assertEqual(yard.numbers("c"), [0])


class DeedTest(unittest.TestCase):
    def test_a_yard_has_nothing_at_first(self):
        for yard in (Yard(), Yard(1), Yard(least=10), MendYard(), MendYard(least=2)):
            self.assertEqual(everything(yard), {
                "day": 0, "titles": [], "files": [], "rows": {}, "numbers": {}, "pairs": [], "come": [], "gone": [],
                "owed": [], "since": {}, "family": {}, "oldest": {}})

    def test_deeds_give_back_none(self):
        yard = Yard()
        for deed in (("file", 1, "a", ["x", "y"]), ("put", 1, "a", 2, ["z"]), ("cut", 1, "a", 0, 1),
                     ("turn", 2, "a", 0, "q"), ("divide", 2, "a", 1, "b"), ("move", 2, "a", 0, 1, "b", 1),
                     ("unite", 3, "a", "b"), ("drop", 3, "a"), ("back",), ("again",)):
            self.assertIsNone(getattr(yard, deed[0])(*deed[1:]))

    def test_arguments_by_name(self):
        yard = Yard(least=1)
        yard.file(day=1, title="a", rows=["x", "y"])
        yard.put(day=1, title="a", at=0, rows=["z"])
        yard.turn(day=2, title="a", at=0, row="end")
        yard.divide(day=2, title="a", at=1, other="b")
        yard.move(day=2, title="b", at=0, many=1, other="a", to=1)
        self.assertEqual((yard.rows(title="a"), yard.numbers(title="b")), (["end", "x"], [1]))
        self.assertEqual(yard.since(title="a", first=0, many=2), 2)
        self.assertEqual(yard.family(title="b", first=0, many=1), [("a", 1), ("b", 0)])
        self.assertEqual(yard.oldest(title="b", first=0, many=1), ("a", 1))
        yard.unite(day=3, title="a", other="b")
        yard.cut(day=3, title="a", at=0, many=1)
        yard.drop(day=3, title="a")
        self.assertEqual(yard.titles(), [])

    def test_each_method_stands_in_its_class(self):
        for name in DEEDS + ["back", "again", "day", "titles", "rows", "numbers", "since", "files", "pairs", "come",
                             "gone", "family", "oldest"]:
            self.assertTrue(inspect.isfunction(vars(Yard)[name]), name)
        for name in ("mend", "settle", "waive", "owed"):
            self.assertTrue(inspect.isfunction(vars(MendYard)[name]), name)
            self.assertFalse(hasattr(Yard, name))
        self.assertTrue(issubclass(MendYard, Yard))

    def test_file_and_drop(self):
        yard = yard_of({"b": ["x=1", "", "  if   x "], "a": [], "use": ["end"]})
        self.assertEqual(yard.titles(), ["a", "b", "use"])
        self.assertEqual(yard.rows("b"), ["x = 1", "", "if x"])
        self.assertEqual(yard.files(), [("a", []), ("b", [["x", "=", "1"], [], ["if", "x"]]), ("use", [["end"]])])
        yard.drop(0, "b")
        self.assertEqual(numbers(yard), {"a": [], "use": [3]})

    def test_put_cut_and_turn(self):
        for at in range(4):
            yard = three_files()
            yard.put(5, "a", at, ["p", "q"])
            self.assertEqual(yard.numbers("a"), [0, 1, 2][:at] + [5, 6] + [0, 1, 2][at:])
        for at, many in ((0, 1), (0, 3), (1, 2), (2, 1)):
            yard = three_files()
            yard.cut(5, "a", at, many)
            self.assertEqual(yard.numbers("a"), [0, 1, 2][:at] + [0, 1, 2][at + many:])
        yard = three_files()
        yard.turn(6, "a", 1, " q+1")
        self.assertEqual((yard.rows("a"), yard.numbers("a")), (["x = 1", "q + 1", "end"], [0, 1, 2]))

    def test_move(self):
        for at, many, to in itertools.product(range(3), range(1, 4), range(5)):
            rest = [0, 1, 2][:at] + [0, 1, 2][at + many:]
            moved = [0, 1, 2][at:at + many]
            for other, left in (("a", rest), ("b", [3, 4]), ("c", [])):
                yard = three_files()
                wanted = {"a": rest, "b": [3, 4], "c": []}
                wanted[other] = left[:to] + moved + left[to:]
                good = at + many <= 3 and to <= len(left)
                self.assertIs(tried(yard, ("move", 5, "a", at, many, other, to)), None if good else NoPlace)
                self.assertEqual(numbers(yard), wanted if good else numbers(three_files()))

    def test_divide_and_unite(self):
        for at in range(4):
            yard = three_files()
            yard.divide(5, "a", at, "d")
            self.assertEqual(numbers(yard), {"a": [0, 1, 2][:at], "b": [3, 4], "c": [], "d": [0, 1, 2][at:]})
            yard.unite(5, "b", "d")
            self.assertEqual(numbers(yard), {"a": [0, 1, 2][:at], "b": [3, 4] + [0, 1, 2][at:], "c": []})
        yard = three_files()
        yard.unite(5, "c", "a")
        self.assertEqual(numbers(yard), {"b": [3, 4], "c": [0, 1, 2]})


class FullTest(unittest.TestCase):
    """12 and 13 files, 60 and 61 rows in a file, 100 and 101 rows in all, by each deed that can bring more."""

    def hold(self, files, deed, refused):
        yard = yard_of(files)
        before = yard.files()
        self.assertIs(tried(yard, deed), refused)
        if refused is not None:
            self.assertEqual((yard.files(), yard.day()), (before, 0))

    def test_files(self):
        eleven = {f"f{at}": [] for at in range(11)}
        twelve = {**eleven, "g": ["x"]}
        for deed in (("file", 0, "new", []), ("file", 0, "new", ["x"])):
            self.hold(eleven, deed, None)
            self.hold(twelve, deed, Full)
        for at in (0, 1):
            self.hold(twelve, ("divide", 0, "g", at, "new"), Full)
        self.hold(eleven, ("divide", 0, "f0", 0, "new"), None)
        self.hold(twelve, ("move", 0, "g", 0, 1, "f3", 0), None)

    def test_rows_of_a_file(self):
        for many, refused in ((60, None), (61, Full), (200, Full)):
            self.hold({}, ("file", 0, "a", [""] * many), refused)
        self.hold({"a": [""] * 59}, ("put", 0, "a", 59, ["x"]), None)
        self.hold({"a": [""] * 59}, ("put", 0, "a", 0, ["x", "x"]), Full)
        self.hold({"a": [""] * 60}, ("put", 0, "a", 60, ["x"]), Full)
        self.hold({"a": []}, ("put", 0, "a", 0, [""] * 61), Full)
        self.hold({"a": [""] * 40, "b": [""] * 59}, ("move", 0, "a", 0, 1, "b", 0), None)
        self.hold({"a": [""] * 40, "b": [""] * 59}, ("move", 0, "a", 0, 2, "b", 0), Full)
        self.hold({"a": [""] * 60}, ("move", 0, "a", 0, 20, "a", 40), None)
        self.hold({"a": [""] * 40, "b": [""] * 20}, ("unite", 0, "a", "b"), None)
        self.hold({"a": [""] * 40, "b": [""] * 21}, ("unite", 0, "a", "b"), Full)

    def test_rows_in_all(self):
        ninety = {"a": [""] * 45, "b": [""] * 45}
        self.hold(ninety, ("file", 0, "c", ["x"] * 10), None)
        self.hold(ninety, ("file", 0, "c", ["x"] * 11), Full)
        self.hold(ninety, ("put", 0, "b", 3, ["x"] * 10), None)
        self.hold(ninety, ("put", 0, "b", 3, ["x"] * 11), Full)
        hundred = {**ninety, "c": [""] * 10}
        for deed in (("move", 0, "a", 0, 45, "c", 10), ("unite", 0, "c", "b"), ("divide", 0, "a", 3, "d"),
                     ("turn", 0, "c", 9, "x")):
            self.hold(hundred, deed, None)


class DayTest(unittest.TestCase):
    def test_edges(self):
        yard = Yard()
        self.assertIs(tried(yard, ("file", -1, "a", [])), BadDay)
        yard.file(0, "a", [])
        self.assertEqual(yard.day(), 0)
        yard.file(7, "b", [])
        self.assertIs(tried(yard, ("file", 6, "c", [])), BadDay)
        yard.file(7, "c", [])
        self.assertIs(tried(yard, ("drop", 100001, "c")), BadDay)
        yard.drop(100000, "c")
        self.assertEqual(yard.day(), 100000)
        self.assertIs(tried(yard, ("drop", 99999, "b")), BadDay)
        yard.drop(100000, "b")
        yard.back()
        yard.back()
        self.assertEqual(yard.day(), 7)
        yard.drop(8, "c")
        self.assertEqual(yard.day(), 8)

    def test_done_again_on_its_day(self):
        yard = Yard()
        yard.file(3, "a", ["x"])
        yard.turn(9, "a", 0, "y")
        yard.back()
        yard.back()
        self.assertEqual(yard.day(), 0)
        yard.again()
        self.assertEqual((yard.day(), yard.since("a", 0, 1)), (3, 3))
        yard.again()
        self.assertEqual((yard.day(), yard.since("a", 0, 1)), (9, 9))


class RefusalTest(unittest.TestCase):
    """Each deed with right and wrong things for each argument, alone and several at once: the first refusal as told
    comes, and all stands as before."""

    GOOD = {"file": ("d", ["q"]), "drop": ("a",), "put": ("a", 1, ["q"]), "cut": ("a", 1, 2), "turn": ("a", 2, "q"),
            "move": ("a", 1, 2, "b", 2), "divide": ("a", 1, "d"), "unite": ("a", "b")}

    def setUp(self):
        self.yard = three_files()
        self.before = everything(self.yard)

    def hold(self, deed, refused):
        """The yard refuses, stands as before, and can still do again what was taken back."""
        self.assertIs(tried(self.yard, deed), refused, deed)
        self.assertEqual(everything(self.yard), self.before, deed)

    def tearDown(self):
        self.yard.again()
        self.assertEqual((self.yard.rows("a")[0], self.yard.day()), ("7", 7))

    def test_days(self):
        for name, things in self.GOOD.items():
            for day in NO_WHOLE + [-1, 4, 100001, 10 ** 50, -10 ** 50]:
                self.hold((name, day, *things), BadDay)
                self.hold((name, day, *[None for thing in things]), BadDay)

    def test_titles(self):
        for title in NO_TITLES:
            for deed in (("drop", 5, title), ("put", 5, title, -1, []), ("cut", 5, title, 9, 9),
                         ("turn", 5, title, 9, None), ("move", 5, title, 9, 9, title, 9),
                         ("move", 5, "a", 9, 9, title, 9), ("move", 5, title, 9, 9, "a", 9),
                         ("divide", 5, title, 9, None), ("unite", 5, title, title),
                         ("unite", 5, "a", title), ("unite", 5, title, "a")):
                self.hold(deed, NoTitle)

    def test_new_titles(self):
        for title in BAD_TITLES:
            self.hold(("file", 5, title, [None]), BadTitle)
            self.hold(("divide", 5, "a", None, title), BadTitle)
        for title in ("a", "b", "c"):
            self.hold(("file", 5, title, [None]), Known)
            self.hold(("divide", 5, "a", None, title), Known)
        self.hold(("unite", 5, "c", "c"), Same)

    def test_places(self):
        for thing in NO_WHOLE + [-1, -10 ** 50, 10 ** 50, 4]:
            self.hold(("put", 5, "a", thing, []), NoPlace)
            self.hold(("divide", 5, "a", thing, "d"), NoPlace)
            self.hold(("turn", 5, "a", thing, None), NoPlace)
            self.hold(("cut", 5, "a", thing, 1), NoPlace)
            self.hold(("cut", 5, "a", 0, thing), NoPlace)
            self.hold(("move", 5, "a", thing, 1, "b", 0), NoPlace)
            self.hold(("move", 5, "a", 0, thing, "b", 0), NoPlace)
            self.hold(("move", 5, "a", 0, 1, "b", thing), NoPlace)
        for deed in (("turn", 5, "a", 3, None), ("turn", 5, "c", 0, None), ("cut", 5, "c", 0, 0), ("cut", 5, "a", 0, 0),
                     ("cut", 5, "a", 3, 0), ("cut", 5, "a", 2, 2), ("move", 5, "a", 0, 2, "a", 2),
                     ("move", 5, "a", 0, 3, "a", 1), ("move", 5, "a", 3, 1, "b", 0), ("move", 5, "a", 0, 0, "a", 0)):
            self.hold(deed, NoPlace)

    def test_rows(self):
        self.hold(("put", 5, "a", 0, []), NoRows)
        for row in BAD_ROWS:
            self.hold(("turn", 5, "a", 0, row), BadRow)
            for rows in ([row], ["x"] * 199 + [row], [row, "x"]):
                self.hold(("put", 5, "a", 0, rows), BadRow)
                self.hold(("file", 5, "d", rows), BadRow)

    def test_several_at_once(self):
        bad = {"d": ["", "a", None], "a": ["d", None, []], "b": ["d", True], 1: [True, -1, 9, "1"], 2: [None, 3, 0],
               "q": [None, "a\n"]}
        stand = {"files": {"a": [(0, ("x", "=", "1")), (1, ("if", "x")), (2, ("end",))],
                           "b": [(3, ("y", "=", "1")), (4, ("if", "y"))], "c": []}, "fresh": 5, "debts": {}}
        for name, things in self.GOOD.items():
            lists = [[["q"], [], [None], ["q"] * 61, [Odd()] * 61] if isinstance(thing, list) else [thing] + bad[thing]
                     for thing in things]
            for chosen in itertools.product([5, 6, 4, None], *lists):
                refused = refusal(stand, 5, (name, *chosen))
                if refused is not None:
                    self.assertIs(tried(self.yard, (name, *chosen)), refused, (name, chosen))
        self.assertEqual(everything(self.yard), self.before)

    def test_the_first_one_as_told(self):
        for deed, refused in (
                (("file", 4, None, [None] * 61), BadDay), (("file", 5, None, [None] * 61), BadTitle),
                (("file", 5, "a", [None] * 61), Known), (("file", 5, "d", [None] * 61), BadRow),
                (("file", 5, "d", ["x"] * 61), Full), (("unite", 4, None, None), BadDay),
                (("put", 5, "a", 9, []), NoPlace), (("put", 5, "a", 3, ["x"] * 61), Full),
                (("put", 5, "a", 3, ["x"] * 61 + [None]), BadRow), (("divide", 5, "d", 9, ""), NoTitle),
                (("divide", 5, "a", 9, ""), BadTitle), (("divide", 5, "a", 9, "a"), Known),
                (("divide", 5, "a", 9, "d"), NoPlace), (("move", 5, "d", -1, 0, "d", -1), NoTitle)):
            self.hold(deed, refused)

    def test_back_and_again_where_there_is_none(self):
        yard = Yard()
        for name in ("back", "again"):
            self.assertIs(tried(yard, (name,)), NoDeed)
        yard.file(1, "a", [])
        self.assertIs(tried(yard, ("again",)), NoDeed)
        yard.back()
        self.assertIs(tried(yard, ("back",)), NoDeed)
        self.assertIs(tried(yard, ("file", 1, "", [])), BadTitle)
        yard.again()
        yard.back()
        yard.file(1, "b", [])
        self.assertIs(tried(yard, ("again",)), NoDeed)
        self.assertEqual(yard.titles(), ["b"])


class QuestionTest(unittest.TestCase):
    def test_refusals(self):
        yard = three_files()
        before = everything(yard)
        for title in NO_TITLES:
            for question in (("rows", title), ("numbers", title)):
                self.assertIs(tried(yard, question), NoTitle)
            for name in ("since", "family", "oldest"):
                self.assertIs(tried(yard, (name, title, None, -1)), NoTitle)
                self.assertIs(tried(yard, (name, title, 0, 1)), NoTitle)
        for name in ("since", "family", "oldest"):
            for thing in NO_WHOLE + [-1, 10 ** 50, 4]:
                self.assertIs(tried(yard, (name, "a", thing, 1)), NoPlace)
                self.assertIs(tried(yard, (name, "a", 0, thing)), NoPlace)
            for question in ((name, "a", 0, 0), (name, "a", 3, 1), (name, "a", 2, 2), (name, "c", 0, 1)):
                self.assertIs(tried(yard, question), NoPlace)
        self.assertEqual(everything(yard), before)
        yard.again()

    def test_since(self):
        yard = yard_of({"a": ["p", "q", "r"], "b": ["s"]}, day=1)
        yard.move(2, "a", 0, 3, "b", 0)
        self.assertEqual([yard.since("b", 0, many) for many in (1, 2, 3, 4)], [1, 1, 1, 2])
        yard.move(3, "b", 1, 2, "b", 1)
        self.assertEqual([yard.since("b", 0, many) for many in (1, 2, 3, 4)], [1, 1, 1, 2])
        yard.turn(4, "b", 1, "q")
        self.assertEqual([yard.since("b", first, 1) for first in range(4)], [1, 4, 1, 1])
        self.assertEqual([yard.since("b", 0, 2), yard.since("b", 2, 2)], [4, 2])
        yard.divide(5, "b", 1, "c")
        self.assertEqual([yard.since("c", 0, 3), yard.since("c", 1, 2), yard.since("b", 0, 1)], [4, 2, 1])
        yard.unite(6, "b", "c")
        self.assertEqual([yard.since("b", 0, 2), yard.since("b", 1, 2), yard.since("b", 2, 2)], [6, 4, 2])
        yard.divide(7, "b", 4, "d")
        yard.unite(8, "d", "b")
        self.assertEqual([yard.since("d", 0, 2), yard.since("d", 1, 2), yard.since("d", 2, 2)], [6, 4, 2])
        yard.back()
        yard.back()
        yard.back()
        self.assertEqual(yard.since("c", 0, 3), 4)

    def test_rows_parted_and_together_again(self):
        yard = yard_of({"a": ["p", "q"]}, day=1)
        yard.put(2, "a", 1, ["r"])
        self.assertEqual([yard.since("a", 0, 1), yard.since("a", 2, 1), yard.since("a", 0, 2)], [1, 1, 2])
        yard.cut(3, "a", 1, 1)
        self.assertEqual([yard.since("a", 0, 1), yard.since("a", 0, 2)], [1, 3])
        yard.move(4, "a", 0, 1, "a", 1)
        yard.move(5, "a", 1, 1, "a", 0)
        self.assertEqual((yard.rows("a"), yard.since("a", 0, 2)), (["p", "q"], 5))
        yard.back()
        yard.back()
        self.assertEqual(yard.since("a", 0, 2), 3)
        yard.again()
        self.assertEqual((yard.rows("a"), yard.since("a", 0, 2)), (["q", "p"], 4))

    def test_pairs_come_and_gone(self):
        yard = yard_of({"b": ["x = 1", "if x", "end"], "a": ["y = 1", "if y", "z"]}, least=2)
        self.assertEqual(yard.pairs(), [("a", 0, "b", 0, 2)])
        self.assertEqual((yard.come(), yard.gone()), ([((0, 1), (3, 4))], []))
        yard.turn(0, "a", 2, "end")
        self.assertEqual((yard.come(), yard.gone()), ([((0, 1, 2), (3, 4, 5))], [((0, 1), (3, 4))]))
        yard.turn(0, "a", 2, "end")
        self.assertEqual((yard.come(), yard.gone()), ([], []))
        yard.turn(0, "b", 0, "x = 2")
        self.assertEqual((yard.come(), yard.gone()), ([((1, 2), (4, 5))], [((0, 1, 2), (3, 4, 5))]))
        yard.unite(0, "a", "b")
        self.assertEqual((yard.pairs(), yard.come(), yard.gone()), ([("a", 1, "a", 4, 2)], [], []))
        self.assertIs(tried(yard, ("turn", 0, "a", 0, None)), BadRow)
        yard.back()
        yard.back()
        self.assertEqual((yard.come(), yard.gone()), ([((0, 1, 2), (3, 4, 5))], [((1, 2), (4, 5))]))
        self.assertIs(tried(yard, ("drop", 0, "c")), NoTitle)
        self.assertEqual(len(yard.come()) + len(yard.gone()), 2)
        yard.again()
        self.assertEqual((yard.come(), yard.gone()), ([((1, 2), (4, 5))], [((0, 1, 2), (3, 4, 5))]))

    def test_a_pair_by_its_lesser_first_number(self):
        yard = yard_of({"a": ["if x", "end"], "b": ["q"]}, least=2)
        yard.put(0, "b", 0, ["if y", "end"])
        yard.move(0, "a", 0, 2, "b", 2)
        self.assertEqual(yard.numbers("b"), [3, 4, 0, 1, 2])
        yard.turn(0, "b", 0, "p")
        self.assertEqual((yard.gone(), yard.pairs()), ([((0, 1), (3, 4))], []))

    def test_least(self):
        for least in range(1, 11):
            yard = yard_of({"a": ["x"] * 10, "b": ["y"] * 10}, least=least)
            self.assertEqual([pair[4] for pair in yard.pairs() if pair[:2] != pair[2:4] and pair[0] != pair[2]],
                             [many for many in [*range(10, 0, -1), *range(9, 0, -1)] if many >= least])

    def test_three_rows_where_no_least_is_told(self):
        for kind in (Yard, MendYard):
            yard = kind()
            yard.file(0, "a", ["if x", "end", "x", "q q"])
            yard.file(0, "b", ["if y", "end"])
            self.assertEqual((yard.pairs(), yard.come()), ([], []))
            yard.put(0, "b", 2, ["y"])
            self.assertEqual((yard.pairs(), yard.come()), ([("a", 0, "b", 0, 3)], [((0, 1, 2), (4, 5, 6))]))

    def test_oldest(self):
        yard = yard_of({"b": ["if x", "end"]}, day=2)
        yard.file(3, "a", ["if y", "end"])
        yard.file(3, "c", ["q", "if z", "end"])
        self.assertEqual(yard.family("a", 0, 2), [("a", 0), ("b", 0), ("c", 1)])
        self.assertEqual([yard.oldest("a", 0, 2), yard.oldest("c", 1, 2), yard.oldest("b", 0, 1)], [("b", 0)] * 3)
        yard.turn(4, "b", 1, "end")
        self.assertEqual([yard.oldest("c", 1, 2), yard.oldest("c", 1, 1), yard.oldest("c", 2, 1)],
                         [("a", 0), ("b", 0), ("a", 1)])


class NearTest(unittest.TestCase):
    """[51]"""

    @staticmethod
    def beside(files):
        """By the number of each row those of the row ahead and the row behind, or None."""
        found = {}
        for row_numbers in files.values():
            for at, number in enumerate(row_numbers):
                found[number] = ((row_numbers[at - 1] if at else None), (row_numbers[at + 1:] or [None])[0])
        return found

    def near(self, stretch, mine, yours, turned):
        if any(number not in yours or number in turned for number in stretch):
            return True
        if any(yours[one][1] != other for one, other in zip(stretch, stretch[1:])):
            return True
        ahead, behind = mine[stretch[0]][0], mine[stretch[-1]][1]
        return ahead != yours[stretch[0]][0] or behind != yours[stretch[-1]][1] or ahead in turned or behind in turned

    def test_only_what_is_near_is_changed(self):
        seen = 0
        for seed in range(100, 140):
            chance = random.Random(seed)
            yard, deeds, undone = Yard(1), [], []
            for step in range(25):
                before = self.beside(numbers(yard))
                deed = any_step(chance, yard, 20, DEEDS, len(deeds), len(undone))
                rows = {title: yard.numbers(title) for title in yard.titles()}
                if tried(yard, deed) is not None:
                    continue
                if deed[0] == "back":
                    undone.append(deeds.pop())
                elif deed[0] == "again":
                    deeds.append(undone.pop())
                else:
                    deeds.append((deed, rows))
                    undone = []
                done, rows = undone[-1] if deed[0] == "back" else deeds[-1]
                turned = [rows[done[2]][done[3]]] if done[0] == "turn" else []
                behind = self.beside(numbers(yard))
                for pairs, mine, yours in ((yard.come(), behind, before), (yard.gone(), before, behind)):
                    for pair in pairs:
                        seen += 1
                        self.assertTrue(any(self.near(stretch, mine, yours, turned) for stretch in pair), (deed, pair))
        self.assertGreater(seen, 500)


class OwnTest(unittest.TestCase):
    def test_rows_handed_in_may_be_changed(self):
        yard, rows, more = Yard(), ["x = 1", "end"], ["q"]
        yard.file(0, "a", rows)
        yard.put(0, "a", 1, more)
        self.assertEqual((rows, more), (["x = 1", "end"], ["q"]))
        rows[0], more[0] = "y", None
        rows.append("z")
        self.assertEqual(yard.rows("a"), ["x = 1", "q", "end"])
        yard.back()
        yard.again()
        self.assertEqual(yard.rows("a"), ["x = 1", "q", "end"])

    def test_changing_what_was_told_changes_nothing(self):
        yard = yard_of({"a": ["if x", "end", "if y", "end"], "b": ["if z", "end"]}, least=1)
        before = everything(yard)
        for told in (yard.titles(), yard.rows("a"), yard.numbers("a"), yard.pairs(), yard.come(),
                     yard.family("a", 0, 1)):
            self.assertTrue(told)
            told.clear()
        for told in (yard.gone(), yard.files()):
            told.append(None)
        for title, stretch in yard.files():
            stretch[0][0] = "changed"
            stretch[1].append("more")
            stretch.pop()
        self.assertEqual(everything(yard), before)
        yard.drop(0, "b")
        yard.back()
        self.assertEqual(everything(yard)["pairs"], before["pairs"])
        yard.gone().append(None)
        yard.pairs().append(None)
        self.assertEqual((yard.pairs(), yard.gone()), (before["pairs"], []))

    def test_each_yard_goes_by_itself(self):
        one, other = Yard(1), Yard(1)
        one.file(5, "a", ["x", "y"])
        self.assertEqual((other.titles(), other.day(), other.come()), ([], 0, []))
        self.assertIs(tried(other, ("back",)), NoDeed)
        other.file(2, "a", ["end"])
        self.assertEqual((one.rows("a"), other.rows("a"), other.numbers("a")), (["x", "y"], ["end"], [0]))
        one.back()
        self.assertEqual((one.titles(), other.titles(), one.come(), one.gone()), ([], ["a"], [], [((0,), (1,))]))


if __name__ == "__main__":
    unittest.main()
