"""What the deeds with files have in common: promises 40 to 46 and 48 as far as they can stand without a yard."""

import copy
import itertools
import unittest

from kinrows import deeds
from kinrows.errors import BadDay, BadRow, BadTitle, Full, KinError, Known, NoPlace, NoRows, NoTitle, Same
from tests.things import odd_lists, odd_things

NO_WHOLE = [thing for thing in odd_things() if type(thing) is not int] + odd_lists() + ["", "0"]
BAD_ROWS = odd_things() + odd_lists() + ["a\n", "\t", "+" * 31, "a" * 21, " " * 1001]


def numbered(numbers, day=1):
    """Rows with these numbers, each of its own word."""
    return [(number, (str(number),), day) for number in numbers]


def three_files():
    return {"a": numbered([0, 1, 2]), "b": numbered([3, 4]), "c": []}


def numbers(files):
    return {title: [row[0] for row in files[title]] for title in files}


def told(call, *things):
    """What a deed tells, by the numbers of the rows, or the class of its refusal."""
    try:
        files = call(*things)
    except KinError as refusal:
        return refusal.__class__
    return files if files is None else numbers(files)


class DayTest(unittest.TestCase):
    def test_days(self):
        for day, least in ((0, 0), (1, 0), (5, 5), (6, 5), (100000, 0), (100000, 100000)):
            self.assertIsNone(told(deeds.refuse_day, day, least))
        for day, least in ((-1, 0), (4, 5), (0, 1), (100001, 0), (10 ** 30, 5), (-10 ** 30, 0)):
            self.assertIs(told(deeds.refuse_day, day, least), BadDay)

    def test_days_of_other_kinds(self):
        for day in NO_WHOLE:
            self.assertIs(told(deeds.refuse_day, day, 0), BadDay)


class FileTest(unittest.TestCase):
    def test_file(self):
        files = deeds.with_file(three_files(), "d", ["x = 1", "", "end"], 5, 9)
        self.assertEqual(files["d"], [(5, ("x", "=", "1"), 9), (6, (), 9), (7, ("end",), 9)])
        self.assertEqual({title: files[title] for title in "abc"}, three_files())
        self.assertEqual(numbers(deeds.with_file({}, "use", [], 0, 0)), {"use": []})

    def test_file_refused(self):
        for title in odd_things() + odd_lists() + ["", "1", "a b", "+", "a" * 21, "a\n"]:
            self.assertIs(told(deeds.with_file, three_files(), title, [None], 5, 9), BadTitle)
        self.assertIs(told(deeds.with_file, three_files(), "a", [None], 5, 9), Known)
        self.assertIs(told(deeds.with_file, three_files(), "c", [], 5, 9), Known)
        for row in BAD_ROWS:
            self.assertIs(told(deeds.with_file, three_files(), "d", ["a"] * 99 + [row], 5, 9), BadRow)

    def test_file_full(self):
        self.assertEqual(len(deeds.with_file({}, "d", ["a"] * 60, 0, 0)["d"]), 60)
        self.assertIs(told(deeds.with_file, {}, "d", ["a"] * 61, 0, 0), Full)
        files = {"a": numbered(range(60))}
        self.assertEqual(len(deeds.with_file(files, "d", ["a"] * 40, 60, 1)["d"]), 40)
        self.assertIs(told(deeds.with_file, files, "d", ["a"] * 41, 60, 1), Full)
        files = {f"f{at}": [] for at in range(11)}
        files = deeds.with_file(files, "g", [], 0, 0)
        self.assertIs(told(deeds.with_file, files, "h", [], 0, 0), Full)

    def test_drop(self):
        self.assertEqual(told(deeds.without_file, three_files(), "a"), {"b": [3, 4], "c": []})
        self.assertEqual(told(deeds.without_file, {"c": []}, "c"), {})
        for title in odd_things() + odd_lists() + ["", "d", "A"]:
            self.assertIs(told(deeds.without_file, three_files(), title), NoTitle)


class RowsTest(unittest.TestCase):
    def test_put(self):
        for at in range(4):
            files = deeds.with_rows(three_files(), "a", at, ["x", "y"], 5, 9)
            self.assertEqual(numbers(files), {"a": [0, 1, 2][:at] + [5, 6] + [0, 1, 2][at:], "b": [3, 4], "c": []})
            self.assertEqual(files["a"][at:at + 2], [(5, ("x",), 9), (6, ("y",), 9)])
        self.assertEqual(told(deeds.with_rows, three_files(), "c", 0, [""], 5, 9)["c"], [5])

    def test_put_refused(self):
        for title in odd_things() + odd_lists() + ["", "d"]:
            self.assertIs(told(deeds.with_rows, three_files(), title, -1, [], 5, 9), NoTitle)
        for at in NO_WHOLE + [-1, 4, 10 ** 30]:
            self.assertIs(told(deeds.with_rows, three_files(), "a", at, [], 5, 9), NoPlace)
        self.assertIs(told(deeds.with_rows, {"a": numbered(range(60))}, "a", 0, [], 5, 9), NoRows)
        for row in BAD_ROWS:
            self.assertIs(told(deeds.with_rows, three_files(), "a", 0, [row] + ["a"] * 99, 5, 9), BadRow)

    def test_put_full(self):
        files = {"a": numbered(range(59)), "b": numbered(range(59, 99))}
        self.assertEqual(len(deeds.with_rows(files, "a", 0, ["x"], 99, 1)["a"]), 60)
        self.assertEqual(len(deeds.with_rows(files, "b", 0, ["x"], 99, 1)["b"]), 41)
        self.assertIs(told(deeds.with_rows, files, "a", 0, ["x", "x"], 99, 1), Full)
        self.assertIs(told(deeds.with_rows, files, "b", 0, ["x", "x"], 99, 1), Full)
        self.assertIs(told(deeds.with_rows, {"a": numbered(range(60))}, "a", 60, ["x"], 60, 1), Full)

    def test_cut(self):
        for at, many in ((0, 1), (0, 3), (1, 2), (2, 1)):
            rest = [0, 1, 2][:at] + [0, 1, 2][at + many:]
            self.assertEqual(told(deeds.without_rows, three_files(), "a", at, many), {"a": rest, "b": [3, 4], "c": []})

    def test_cut_refused(self):
        self.assertIs(told(deeds.without_rows, three_files(), "d", 0, 0), NoTitle)
        self.assertIs(told(deeds.without_rows, three_files(), None, 0, 1), NoTitle)
        for at, many in ((0, 0), (-1, 1), (3, 1), (0, 4), (2, 2), (1, -1), (10 ** 30, 1), (0, 10 ** 30)):
            self.assertIs(told(deeds.without_rows, three_files(), "a", at, many), NoPlace)
        for thing in NO_WHOLE:
            self.assertIs(told(deeds.without_rows, three_files(), "a", thing, 1), NoPlace)
            self.assertIs(told(deeds.without_rows, three_files(), "a", 0, thing), NoPlace)

    def test_turn(self):
        files = deeds.with_row_turned(three_files(), "a", 1, "x+1", 9)
        self.assertEqual(files["a"], [(0, ("0",), 1), (1, ("x", "+", "1"), 9), (2, ("2",), 1)])
        self.assertEqual(deeds.with_row_turned(three_files(), "b", 1, "4", 9)["b"][1], (4, ("4",), 9))

    def test_turn_refused(self):
        self.assertIs(told(deeds.with_row_turned, three_files(), [], -1, None, 9), NoTitle)
        for at in NO_WHOLE + [-1, 3, 10 ** 30]:
            self.assertIs(told(deeds.with_row_turned, three_files(), "a", at, None, 9), NoPlace)
        self.assertIs(told(deeds.with_row_turned, three_files(), "c", 0, None, 9), NoPlace)
        for row in BAD_ROWS:
            self.assertIs(told(deeds.with_row_turned, three_files(), "a", 0, row, 9), BadRow)


class MoveTest(unittest.TestCase):
    def test_to_another_file(self):
        for to in range(3):
            self.assertEqual(told(deeds.with_rows_moved, three_files(), "a", 1, 2, "b", to),
                             {"a": [0], "b": [3, 4][:to] + [1, 2] + [3, 4][to:], "c": []})
        self.assertEqual(told(deeds.with_rows_moved, three_files(), "a", 0, 3, "c", 0),
                         {"a": [], "b": [3, 4], "c": [0, 1, 2]})

    def test_within_a_file(self):
        for at, many, to in itertools.product(range(3), range(1, 4), range(3)):
            rest = [0, 1, 2][:at] + [0, 1, 2][at + many:]
            good = at + many <= 3 and to <= len(rest)
            wanted = {"a": rest[:to] + [0, 1, 2][at:at + many] + rest[to:], "b": [3, 4], "c": []} if good else NoPlace
            self.assertEqual(told(deeds.with_rows_moved, three_files(), "a", at, many, "a", to), wanted)

    def test_rows_keep_their_days(self):
        self.assertEqual(deeds.with_rows_moved(three_files(), "a", 0, 1, "b", 0)["b"][0], (0, ("0",), 1))

    def test_refused(self):
        for title, other in (("d", "a"), ("a", "d"), (None, []), ("a", {}), (True, "a")):
            self.assertIs(told(deeds.with_rows_moved, three_files(), title, 0, 9, other, 0), NoTitle)
        for thing in NO_WHOLE + [-1]:
            self.assertIs(told(deeds.with_rows_moved, three_files(), "a", thing, 1, "b", 0), NoPlace)
            self.assertIs(told(deeds.with_rows_moved, three_files(), "a", 0, thing, "b", 0), NoPlace)
            self.assertIs(told(deeds.with_rows_moved, three_files(), "a", 0, 1, "b", thing), NoPlace)
        self.assertIs(told(deeds.with_rows_moved, three_files(), "a", 0, 1, "b", 3), NoPlace)
        self.assertIs(told(deeds.with_rows_moved, three_files(), "a", 0, 2, "a", 2), NoPlace)
        self.assertIs(told(deeds.with_rows_moved, three_files(), "a", 0, 0, "b", 0), NoPlace)

    def test_full(self):
        files = {"a": numbered(range(40)), "b": numbered(range(40, 99))}
        self.assertEqual(len(deeds.with_rows_moved(files, "a", 0, 1, "b", 0)["b"]), 60)
        self.assertIs(told(deeds.with_rows_moved, files, "a", 0, 2, "b", 0), Full)
        self.assertIs(told(deeds.with_rows_moved, files, "a", 0, 2, "b", 60), NoPlace)
        files = {"a": numbered(range(60))}
        self.assertEqual(len(deeds.with_rows_moved(files, "a", 0, 20, "a", 40)["a"]), 60)


class DivideTest(unittest.TestCase):
    def test_divide(self):
        for at in range(4):
            self.assertEqual(told(deeds.with_file_divided, three_files(), "a", at, "d"),
                             {"a": [0, 1, 2][:at], "b": [3, 4], "c": [], "d": [0, 1, 2][at:]})

    def test_divide_refused(self):
        self.assertIs(told(deeds.with_file_divided, three_files(), "d", -1, None), NoTitle)
        self.assertIs(told(deeds.with_file_divided, three_files(), [], -1, "a"), NoTitle)
        for title in odd_things() + odd_lists() + ["", "1", "a" * 21]:
            self.assertIs(told(deeds.with_file_divided, three_files(), "a", -1, title), BadTitle)
        for title in ("a", "b"):
            self.assertIs(told(deeds.with_file_divided, three_files(), "a", -1, title), Known)
        for at in NO_WHOLE + [-1, 4]:
            self.assertIs(told(deeds.with_file_divided, three_files(), "a", at, "d"), NoPlace)

    def test_divide_full(self):
        files = {f"f{at}": [] for at in range(12)}
        self.assertIs(told(deeds.with_file_divided, files, "f0", 0, "g"), Full)
        self.assertIs(told(deeds.with_file_divided, files, "f0", 1, "g"), NoPlace)
        files.pop("f1")
        self.assertEqual(len(deeds.with_file_divided(files, "f0", 0, "g")), 12)

    def test_unite(self):
        self.assertEqual(told(deeds.with_files_united, three_files(), "b", "a"), {"b": [3, 4, 0, 1, 2], "c": []})
        self.assertEqual(told(deeds.with_files_united, three_files(), "c", "a"), {"b": [3, 4], "c": [0, 1, 2]})

    def test_unite_refused(self):
        for title, other in (("d", "d"), ("a", "d"), ("d", "a"), (None, None), ("a", []), (True, "a")):
            self.assertIs(told(deeds.with_files_united, three_files(), title, other), NoTitle)
        self.assertIs(told(deeds.with_files_united, three_files(), "a", "a"), Same)

    def test_unite_full(self):
        files = {"a": numbered(range(40)), "b": numbered(range(40, 60)), "c": numbered(range(60, 81))}
        self.assertEqual(len(deeds.with_files_united(files, "a", "b")["a"]), 60)
        self.assertIs(told(deeds.with_files_united, files, "a", "c"), Full)


class BesideTest(unittest.TestCase):
    def test_days_of_rows_side_by_side(self):
        self.assertEqual(deeds.beside_days(three_files(), {}, 4), {(0, 1): 4, (1, 2): 4, (3, 4): 4})
        self.assertEqual(deeds.beside_days(three_files(), {(0, 1): 2, (2, 3): 2, (4, 3): 2}, 4),
                         {(0, 1): 2, (1, 2): 4, (3, 4): 4})
        self.assertEqual(deeds.beside_days({}, {(0, 1): 2}, 4), {})

    def test_rows_moved_whole_stand_side_by_side_as_before(self):
        before = deeds.beside_days(three_files(), {}, 1)
        files = deeds.with_rows_moved(three_files(), "a", 0, 2, "b", 1)
        self.assertEqual(deeds.beside_days(files, before, 7), {(3, 0): 7, (0, 1): 1, (1, 4): 7})


class OwnTest(unittest.TestCase):
    def test_files_that_are_told_stay(self):
        calls = [(deeds.with_file, "d", ["x"], 5, 9), (deeds.with_file, "d", [None], 5, 9), (deeds.without_file, "a"),
                 (deeds.with_rows, "a", 1, ["x"], 5, 9), (deeds.without_rows, "a", 1, 1),
                 (deeds.with_row_turned, "a", 1, "x", 9), (deeds.with_rows_moved, "a", 1, 1, "b", 0),
                 (deeds.with_rows_moved, "a", 1, 1, "b", 9), (deeds.with_file_divided, "a", 1, "d"),
                 (deeds.with_files_united, "a", "b"), (deeds.beside_days, {(0, 1): 1}, 2)]
        for call, *things in calls:
            files, before = three_files(), copy.deepcopy(things)
            try:
                call(files, *things)
            except KinError:
                pass
            self.assertEqual((files, things), (three_files(), before))


if __name__ == "__main__":
    unittest.main()
