"""Mends and what rows owe by them: promises 57 to 64, and 47 and 48 as far as they tell of mends."""

import itertools
import random
import unittest

from kinrows.errors import BadDay, BadRow, NoDebt, NoPlace, NoTitle
from kinrows.mends import MendYard
from kinrows.yards import Yard
from tests.books import Book, everything, refusal, tried
from tests.chances import any_deed, any_step
from tests.test_yards import BAD_ROWS, DEEDS, NO_TITLES, NO_WHOLE, SequenceCase, yard_of

MENDS = ["mend", "settle", "waive"]


def mend_yard(files, day=0):
    return yard_of(files, least=2, day=day, kind=MendYard)


def copies():
    """Three copies of two rows: numbers 0 and 1 in a, 2 and 3 in b, 4 and 5 in c."""
    return mend_yard({"a": ["x = 1", "if x"], "b": ["y = 1", "if y"], "c": ["z = 1", "if z"]})


class SequenceTest(SequenceCase):
    def test_long_sequences(self):
        owed = []
        for seed in range(60):
            chance = random.Random(seed)
            least = chance.choice([1, 2, 3])
            yard, book = MendYard(least), Book(least)
            names = DEEDS + MENDS * chance.choice([1, 3, 6])
            for step in range(30):
                deed = any_step(chance, yard, 12, names, len(book.deeds), len(book.undone))
                owed += self.hold(yard, book, deed)["owed"]
        self.assertGreater(len([row for row in owed if row[2] is None]), 100)
        self.assertGreater(len([row for row in owed if row[2] is not None]), 300)

    def test_all_taken_back_and_done_again(self):
        for seed in range(15):
            self.hold_back_and_again(MendYard(1), random.Random(seed), DEEDS + MENDS * 4)

    def test_without_mends_it_is_a_yard(self):
        for seed in range(10):
            chance = random.Random(seed)
            yard, mending = Yard(1), MendYard(1)
            for step in range(25):
                deed = any_deed(chance, yard, 15, DEEDS)
                self.assertIs(tried(yard, deed), tried(mending, deed))
                self.assertEqual(everything(yard), everything(mending))


class MendTest(unittest.TestCase):
    def test_the_row_is_turned(self):
        yard = copies()
        self.assertIsNone(yard.mend(3, "b", 0, 2, 1, " if y>0"))
        self.assertEqual((yard.rows("b"), yard.numbers("b"), yard.day()), (["y = 1", "if y > 0"], [2, 3], 3))
        self.assertEqual([yard.since("b", 0, 1), yard.since("b", 1, 1), yard.since("a", 0, 2)], [0, 3, 0])
        self.assertEqual(yard.gone(), [((0, 1), (2, 3)), ((2, 3), (4, 5))])

    def test_each_other_member_owes(self):
        yard = copies()
        yard.mend(0, "b", 0, 2, 1, "if y > q")
        self.assertEqual(yard.owed(), [("a", 1, "if x > q", 3), ("c", 1, "if z > q", 3)])
        self.assertEqual(yard.rows("a"), ["x = 1", "if x"])

    def test_arguments_by_name(self):
        yard = copies()
        yard.mend(day=1, title="b", first=0, many=2, at=0, row="y = 2")
        self.assertEqual(yard.owed(), [("a", 0, "x = 2", 2), ("c", 0, "z = 2", 2)])
        yard.settle(day=1, title="a", at=0)
        yard.waive(day=1, title="c", at=0)
        self.assertEqual((yard.owed(), yard.rows("a"), yard.rows("c")), ([], ["x = 2", "if x"], ["z = 1", "if z"]))

    def test_the_family_is_that_of_the_stretch_ahead_of_the_mend(self):
        yard = mend_yard({"a": ["x = 1", "if x"], "b": ["y = 1", "if y"], "c": ["q = 2", "if q"]})
        yard.mend(0, "a", 0, 2, 1, "end")
        self.assertEqual(yard.owed(), [("b", 1, "end", 1)])
        yard.back()
        yard.mend(0, "a", 1, 1, 1, "end")
        self.assertEqual(yard.owed(), [("b", 1, "end", 1), ("c", 1, "end", 1)])
        yard = mend_yard({"a": ["q", "x = 1", "if x"], "b": ["y = 1", "if y"], "c": ["end"]})
        yard.mend(0, "c", 0, 1, 0, "w")
        self.assertEqual(yard.owed(), [])
        yard.mend(0, "a", 1, 2, 2, "if x + x")
        self.assertEqual(yard.owed(), [("b", 1, "if y + y", 2)])

    def test_kept_names_numbers_and_signs_stay(self):
        yard = mend_yard({"a": ["f x 1"], "b": ["g y 1"]})
        yard.mend(0, "a", 0, 1, 0, "use f ( x , 2 ) and new")
        self.assertEqual(yard.owed(), [("b", 0, "use g ( y , 2 ) and new", 0)])

    def test_a_name_that_stays_by_the_renaming(self):
        yard = mend_yard({"a": ["f x"], "b": ["f y"]})
        yard.mend(0, "a", 0, 1, 0, "f x f")
        self.assertEqual(yard.owed(), [("b", 0, "f y f", 0)])

    def test_names_changed_about(self):
        yard = mend_yard({"a": ["x y"], "b": ["y x"]})
        yard.mend(0, "a", 0, 1, 0, "x x y")
        self.assertEqual(yard.owed(), [("b", 0, "y y x", 0)])

    def test_without_words(self):
        yard = copies()
        yard.mend(0, "a", 0, 2, 1, "if y")
        self.assertEqual(yard.owed(), [("b", 1, None, 1), ("c", 1, "if y", 1)])
        # A newer mend gives it words again, though the stretches aren't twins any more.
        self.assertEqual(yard.family("a", 0, 2), [("a", 0)])
        yard.mend(0, "a", 0, 2, 1, "if x + q")
        self.assertEqual(yard.owed(), [("b", 1, "if y + q", 1), ("c", 1, "if z + q", 1)])
        yard.mend(0, "a", 0, 2, 1, "if x + z")
        self.assertEqual(yard.owed(), [("b", 1, "if y + z", 1), ("c", 1, None, 1)])
        yard.mend(0, "a", 0, 2, 1, "z y")
        self.assertEqual(yard.owed(), [("b", 1, None, 1), ("c", 1, None, 1)])
        yard.back()
        yard.back()
        self.assertEqual(yard.owed(), [("b", 1, "if y + q", 1), ("c", 1, "if z + q", 1)])

    def test_a_mend_to_the_words_it_has(self):
        yard = copies()
        yard.mend(4, "a", 0, 2, 1, "if x")
        self.assertEqual((yard.owed(), yard.since("a", 1, 1)), ([], 4))

    def test_no_words_at_all(self):
        yard = copies()
        yard.mend(0, "a", 0, 2, 0, "  ")
        self.assertEqual(yard.owed(), [("b", 0, "", 0), ("c", 0, "", 0)])
        yard.settle(0, "b", 0)
        self.assertEqual((yard.rows("b"), yard.owed()), (["", "if y"], [("c", 0, "", 0)]))

    def test_members_that_share_rows(self):
        yard = mend_yard({"a": ["x", "y", "z"]})
        yard.mend(0, "a", 0, 2, 0, "x + y")
        self.assertEqual(yard.owed(), [("a", 1, "y + z", 0)])
        yard.back()
        yard.mend(0, "a", 0, 2, 1, "x y")
        self.assertEqual((yard.rows("a"), yard.owed()), (["x", "x y", "z"], [("a", 2, "y z", 1)]))
        yard.back()
        yard.mend(0, "a", 1, 2, 1, "z")
        self.assertEqual(yard.owed(), [("a", 0, "y", 1)])
        yard = mend_yard({"a": ["x"] * 4})
        yard.mend(0, "a", 1, 3, 2, "end x")
        self.assertEqual(yard.owed(), [("a", 1, "end x", 2)])


class OwingTest(unittest.TestCase):
    def test_the_mended_row_owes_nothing(self):
        yard = copies()
        yard.mend(0, "a", 0, 2, 1, "if x > 0")
        yard.mend(0, "b", 0, 2, 1, "if y > 5")
        self.assertEqual(yard.owed(), [("c", 1, "if z > 5", 3)])
        yard.mend(0, "c", 0, 1, 0, "end")
        self.assertEqual(yard.owed(), [("a", 0, "end", 4), ("b", 0, "end", 4), ("c", 1, "if z > 5", 3)])

    def test_another_mend_takes_the_place(self):
        yard = copies()
        yard.mend(0, "a", 0, 2, 1, "if y")
        yard.mend(0, "b", 0, 1, 0, "y = 7")
        yard.mend(0, "b", 1, 1, 1, "not y")
        # What c owed to a it owes to b now; the row of a that was mended is a twin of b's, its name the same.
        self.assertEqual(yard.owed(), [("a", 0, "x = 7", 2), ("a", 1, "not y", 3), ("c", 0, "z = 7", 2),
                                       ("c", 1, "not z", 3)])

    def test_in_place_also_where_the_row_has_the_words(self):
        yard = copies()
        yard.mend(0, "a", 0, 2, 1, "if x > 0")
        self.assertEqual(len(yard.owed()), 2)
        yard.mend(0, "b", 0, 2, 1, "if y")
        self.assertEqual(yard.owed(), [])

    def test_it_may_owe_to_a_row_that_owes(self):
        yard = copies()
        yard.mend(0, "a", 0, 2, 1, "if x > 0")
        yard.mend(0, "b", 0, 2, 0, "y = 2")
        self.assertEqual(yard.owed(), [("b", 1, "if y > 0", 1), ("c", 0, "z = 2", 2), ("c", 1, "if z > 0", 1)])

    def test_owed_anew_by_the_renaming_of_the_earlier_mend(self):
        yard = copies()
        yard.mend(0, "a", 0, 2, 1, "if x > 0")
        yard.turn(0, "b", 0, "other words")
        yard.turn(0, "b", 1, "still others")
        yard.mend(0, "a", 1, 1, 1, "while x")
        self.assertEqual(yard.owed(), [("b", 1, "while y", 1), ("c", 1, "while z", 1)])
        yard.mend(0, "a", 0, 1, 0, "x = 9")
        self.assertEqual(yard.owed(), [("b", 1, "while y", 1), ("c", 0, "z = 9", 0), ("c", 1, "while z", 1)])
        # Where the row has just those words it is over, and nothing is left to be owed anew.
        yard.turn(0, "b", 1, "end y")
        yard.mend(0, "a", 1, 1, 1, "end x")
        self.assertEqual(yard.owed(), [("c", 0, "z = 9", 0), ("c", 1, "end z", 1)])
        yard.mend(0, "a", 0, 2, 1, "x")
        self.assertEqual(yard.owed(), [("c", 0, "z = 9", 0), ("c", 1, "z", 1)])

    def test_a_row_of_the_family_owes_by_the_new_renaming(self):
        yard = mend_yard({"a": ["x y"], "b": ["y q"]})
        yard.mend(0, "a", 0, 1, 0, "x x x")
        self.assertEqual(yard.owed(), [("b", 0, "y y y", 0)])
        yard.turn(0, "b", 0, "w w w")
        yard.mend(0, "a", 0, 1, 0, "x + r")
        self.assertEqual(yard.owed(), [("b", 0, "w + r", 0)])

    def test_over_by_whatever_deed(self):
        for name, *things in (("turn", "b", 1, "if  y>0"), ("settle", "b", 1), ("waive", "b", 1), ("cut", "b", 1, 1),
                              ("cut", "b", 0, 2), ("drop", "b"), ("mend", "b", 0, 2, 1, "if y > 0"),
                              ("mend", "b", 1, 1, 1, "q")):
            yard = copies()
            yard.mend(0, "a", 0, 2, 1, "if x > 0")
            yard.drop(0, "c")
            self.assertEqual(yard.owed(), [("b", 1, "if y > 0", 1)])
            getattr(yard, name)(0, *things)
            self.assertEqual(yard.owed(), [], name)
            if "b" in yard.titles() and len(yard.rows("b")) == 2:
                yard.turn(0, "b", 1, "if y")
                self.assertEqual(yard.owed(), [])
                yard.back()
            yard.back()
            self.assertEqual(yard.owed(), [("b", 1, "if y > 0", 1)])
            yard.again()
            self.assertEqual(yard.owed(), [])

    def test_over_by_a_mend_of_a_third_row(self):
        yard = copies()
        yard.mend(0, "a", 0, 2, 1, "if x > 0")
        yard.turn(0, "b", 1, "q q")
        yard.put(0, "c", 2, ["r r"])
        yard.mend(0, "c", 2, 1, 2, "r")
        self.assertEqual(yard.owed(), [("b", 1, "q", 6), ("c", 1, "if z > 0", 1)])
        yard.mend(0, "c", 2, 1, 2, "r r")
        self.assertEqual(yard.owed(), [("c", 1, "if z > 0", 1)])

    def test_it_goes_on_through_other_deeds(self):
        yard = copies()
        yard.mend(0, "a", 0, 2, 1, "if x > 0")
        yard.waive(0, "c", 1)
        for deed, place in (
                (("turn", 1, "b", 1, "q"), ("b", 1)), (("put", 1, "b", 0, ["r", "s"]), ("b", 3)),
                (("move", 2, "b", 3, 1, "c", 1), ("c", 1)), (("cut", 2, "c", 0, 1), ("c", 0)),
                (("divide", 3, "c", 0, "d"), ("d", 0)), (("unite", 3, "b", "d"), ("b", 3)),
                (("move", 3, "b", 3, 1, "b", 0), ("b", 0)), (("turn", 3, "b", 0, "if x > 0"), ("b", 0)),
                (("turn", 4, "a", 1, "mended row turned"), ("b", 0)), (("move", 4, "a", 1, 1, "c", 0), ("b", 0)),
                (("cut", 4, "c", 0, 1), ("b", 0)), (("drop", 4, "a"), ("b", 0)), (("file", 4, "a", ["x"]), ("b", 0))):
            self.assertIsNone(tried(yard, deed))
            self.assertEqual(yard.owed(), [(*place, "if y > 0", 1)], deed)
        yard.settle(5, "b", 0)
        self.assertEqual((yard.rows("b")[0], yard.numbers("b")[0], yard.owed()), ("if y > 0", 3, []))

    def test_without_words_it_ends_by_the_other_ways_alone(self):
        for name, *things in (("turn", "b", 1, "if y"), ("turn", "b", 1, ""), ("turn", "b", 1, "if x"),
                              ("move", "b", 1, 1, "b", 0)):
            yard = copies()
            yard.mend(0, "a", 0, 2, 1, "if y")
            yard.waive(0, "c", 1)
            getattr(yard, name)(0, *things)
            place = 0 if name == "move" else 1
            self.assertEqual(yard.owed(), [("b", place, None, 1)])
            self.assertIs(tried(yard, ("settle", 0, "b", place)), NoDebt)
        for name, *things in (("waive", "b", 1), ("cut", "b", 1, 1), ("mend", "b", 1, 1, 1, "end"),
                              ("mend", "a", 0, 2, 1, "if x")):
            yard = copies()
            yard.mend(0, "a", 0, 2, 1, "if y")
            getattr(yard, name)(0, *things)
            self.assertEqual([row for row in yard.owed() if row[0] == "b"], [])


class SettleTest(unittest.TestCase):
    def test_settle_turns_the_row(self):
        yard = copies()
        yard.mend(1, "a", 0, 2, 1, "if x > 0")
        self.assertIsNone(yard.settle(2, "b", 1))
        self.assertEqual((yard.rows("b"), yard.numbers("b"), yard.day()), (["y = 1", "if y > 0"], [2, 3], 2))
        self.assertEqual([yard.since("b", 0, 1), yard.since("b", 1, 1)], [0, 2])
        self.assertEqual(yard.come(), [((0, 1), (2, 3))])
        self.assertEqual(yard.owed(), [("c", 1, "if z > 0", 1)])
        # No one owes by a settling.
        yard.settle(3, "c", 1)
        self.assertEqual(yard.owed(), [])
        yard.back()
        yard.back()
        self.assertEqual((yard.rows("b")[1], yard.owed()), ("if y", [("b", 1, "if y > 0", 1), ("c", 1, "if z > 0", 1)]))
        self.assertEqual([yard.day(), yard.since("b", 1, 1)], [1, 0])

    def test_waive_touches_no_row(self):
        yard = copies()
        yard.mend(1, "a", 0, 2, 1, "if x > 0")
        before = everything(yard)
        self.assertIsNone(yard.waive(4, "b", 1))
        self.assertEqual(everything(yard), {**before, "day": 4, "come": [], "gone": [],
                                            "owed": [("c", 1, "if z > 0", 1)]})
        yard.back()
        self.assertEqual(everything(yard), {**before, "come": [], "gone": []})
        yard.again()
        self.assertIs(tried(yard, ("waive", 4, "b", 1)), NoDebt)
        self.assertIs(tried(yard, ("settle", 4, "b", 1)), NoDebt)

    def test_owed_by_place(self):
        yard = copies()
        yard.mend(0, "b", 0, 2, 1, "end")
        yard.mend(0, "b", 0, 1, 0, "not y")
        self.assertEqual(yard.owed(), [("a", 0, "not x", 2), ("a", 1, "end", 3), ("c", 0, "not z", 2),
                                       ("c", 1, "end", 3)])
        yard.move(0, "a", 1, 1, "a", 0)
        self.assertEqual(yard.owed()[:2], [("a", 0, "end", 3), ("a", 1, "not x", 2)])


class RefusalTest(unittest.TestCase):
    def setUp(self):
        self.yard = mend_yard({"a": ["x = 1", "if x", "end"], "b": ["y = 1", "if y", "end"], "c": []}, day=5)
        self.yard.mend(5, "a", 0, 3, 1, "if y")
        self.yard.mend(5, "a", 0, 3, 2, "not x")
        self.yard.put(7, "c", 0, ["7"])
        self.yard.back()
        self.before = everything(self.yard)
        self.assertEqual(self.before["owed"], [("b", 1, None, 1)])

    def tearDown(self):
        self.yard.again()
        self.assertEqual((self.yard.rows("c"), self.yard.day()), (["7"], 7))

    def hold(self, deed, refused):
        self.assertIs(tried(self.yard, deed), refused, deed)
        self.assertEqual(everything(self.yard), self.before, deed)

    def test_days_and_titles(self):
        for day in NO_WHOLE + [-1, 4, 100001]:
            for deed in (("mend", day, None, None, 0, 9, None), ("mend", day, "a", 0, 3, 1, "x"),
                         ("settle", day, None, -1), ("waive", day, "b", 1)):
                self.hold(deed, BadDay)
        for title in NO_TITLES:
            for deed in (("mend", 5, title, 0, 0, 9, None), ("settle", 5, title, -1), ("waive", 5, title, None)):
                self.hold(deed, NoTitle)

    def test_places(self):
        for thing in NO_WHOLE + [-1, 3, 10 ** 50, -10 ** 50]:
            for deed in (("mend", 5, "a", thing, 1, 0, None), ("mend", 5, "a", 1, thing, 1, None),
                         ("mend", 5, "a", 0, 3, thing, None), ("settle", 5, "b", thing), ("waive", 5, "b", thing)):
                self.hold(deed, NoPlace)
        for deed in (("mend", 5, "a", 1, 2, 0, None), ("mend", 5, "a", 0, 2, 2, None), ("mend", 5, "a", 0, 0, 0, None),
                     ("mend", 5, "a", 2, 2, 2, None), ("mend", 5, "c", 0, 1, 0, None), ("settle", 5, "c", 0)):
            self.hold(deed, NoPlace)

    def test_rows_and_debts(self):
        for row in BAD_ROWS:
            self.hold(("mend", 5, "a", 0, 3, 1, row), BadRow)
        for deed in (("settle", 5, "b", 0), ("waive", 5, "b", 0), ("settle", 5, "a", 1), ("waive", 5, "a", 1),
                     ("settle", 5, "b", 1)):
            self.hold(deed, NoDebt)

    def test_several_at_once(self):
        book = Book(2)
        for deed in (("file", 5, "a", ["x = 1", "if x", "end"]), ("file", 5, "b", ["y = 1", "if y", "end"]),
                     ("file", 5, "c", []), ("mend", 5, "a", 0, 3, 1, "if y"), ("mend", 5, "a", 0, 3, 2, "not x")):
            book.do(deed)
        stand = book.stands()[-1]
        lists = {"mend": [["a", "c", "d", None], [0, 1, -1, True], [2, 1, 0, None], [1, 0, 2, "1"], ["q", None]],
                 "settle": [["a", "b", "c", []], [0, 1, 3, None]], "waive": [["a", "b", "c", []], [0, 1, 3, None]]}
        for name in lists:
            for things in itertools.product([5, 4, None], *lists[name]):
                refused = refusal(stand, 5, (name, *things))
                if refused is not None:
                    self.assertIs(tried(self.yard, (name, *things)), refused, (name, things))
        self.assertEqual(everything(self.yard), self.before)


class OwnTest(unittest.TestCase):
    def test_what_is_told_is_the_askers_own(self):
        yard = copies()
        yard.mend(0, "a", 0, 2, 1, "end")
        before = everything(yard)
        yard.owed().clear()
        yard.owed().append(None)
        self.assertEqual(everything(yard), before)

    def test_each_yard_goes_by_itself(self):
        one, other = copies(), copies()
        one.mend(0, "a", 0, 2, 1, "end")
        self.assertEqual((len(one.owed()), other.owed()), (2, []))
        self.assertIs(tried(other, ("waive", 0, "b", 1)), NoDebt)


if __name__ == "__main__":
    unittest.main()
