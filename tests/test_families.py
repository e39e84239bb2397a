"""Promises 21 to 24, 19 as far as families go, and 1, 5 and 6 with them."""

import copy
import random
import unittest

from kinrows.errors import NoPlace, NoTitle
from kinrows.families import families, family
from kinrows.pairs import pairs
from kinrows.renamings import renamed
from tests.looks import any_files, plain_families, plain_family, stretch_of, stretches_in
from tests.things import odd_lists, odd_things

LOOP = stretch_of("for k in rows do", "total = total + k", "end")
COPY = stretch_of("for x in list do", "sum = sum + x", "end")
FILES = [("two", COPY + [["1"]] + LOOP), ("one", LOOP + [["2"]])]


def told(call, *things):
    """What a call tells, or the class of its refusal."""
    try:
        return call(*things)
    except (NoTitle, NoPlace) as refusal:
        return refusal.__class__


class FamilyTest(unittest.TestCase):
    def test_all_twins_rising(self):
        members = [("one", 0), ("two", 0), ("two", 4)]
        for title, first in members:
            self.assertEqual(family(FILES, title, first, 3), members)
        self.assertEqual(family(FILES, "one", 1, 2), [("one", 1), ("two", 1), ("two", 5)])

    def test_itself_alone(self):
        self.assertEqual(family(FILES, "two", 3, 1), [("two", 3)])
        self.assertEqual(family(FILES, "two", 0, 7), [("two", 0)])

    def test_overlapping_members(self):
        self.assertEqual(family([("f", [["a", "="]] * 5)], "f", 1, 3), [("f", 0), ("f", 1), ("f", 2)])
        self.assertEqual(family([("f", stretch_of("a b", "b c", "c d"))], "f", 0, 2), [("f", 0), ("f", 1)])

    def test_rows_without_words(self):
        self.assertEqual(family([("g", [[]]), ("f", [[], [], ["a"]])], "f", 1, 1), [("f", 0), ("f", 1), ("g", 0)])

    def test_members_end_inside_their_files(self):
        files = [("a", LOOP[:2]), ("b", LOOP[1:]), ("c", LOOP)]
        self.assertEqual(family(files, "c", 0, 3), [("c", 0)])
        self.assertEqual(family(files, "c", 0, 2), [("a", 0), ("c", 0)])
        self.assertEqual(family(files, "c", 1, 2), [("b", 0), ("c", 1)])

    def test_kept_names_are_titles_too(self):
        self.assertEqual(family([("use", LOOP), ("if", COPY)], "use", 0, 3), [("if", 0), ("use", 0)])

    def test_held_against_a_look_at_each_stretch(self):
        for seed in range(60):
            files = any_files(seed)
            for title, first, many in stretches_in(files):
                self.assertEqual(family(files, title, first, many), plain_family(files, title, first, many))

    def test_each_member_has_this_very_family(self):
        for seed in range(60, 120):
            files = any_files(seed)
            for title, first, many in stretches_in(files):
                members = family(files, title, first, many)
                self.assertIn((title, first), members)
                for other, second in members:
                    self.assertEqual(family(files, other, second, many), members)

    def test_twelve_files_and_a_hundred_rows(self):
        files = [(f"f{at}", [["a", "b"] * 15] * 8) for at in range(12)]
        self.assertEqual(family(files, "f3", 5, 3), sorted((f"f{at}", first) for at in range(12) for first in range(6)))
        rows = [[f"n{30 * row + word}" for word in range(30)] for row in range(60)]
        self.assertEqual(family([("f", rows), ("g", rows[:40])], "f", 0, 40),
                         [("f", first) for first in range(21)] + [("g", 0)])


class FamilyRefusedTest(unittest.TestCase):
    def test_no_title(self):
        for title in ["three", "", "One", "one ", "o", 0] + odd_things() + odd_lists():
            with self.subTest(title):
                self.assertIs(told(family, FILES, title, 0, 1), NoTitle)
        self.assertIs(told(family, [], "one", 0, 1), NoTitle)

    def test_no_place_for_what_is_no_whole_number(self):
        things = [thing for thing in odd_things() if type(thing) is not int]
        for thing in things + odd_lists() + ["", "0", "one"]:
            with self.subTest(thing):
                self.assertIs(told(family, FILES, "one", thing, 1), NoPlace)
                self.assertIs(told(family, FILES, "one", 0, thing), NoPlace)
                self.assertIs(told(family, FILES, "one", thing, thing), NoPlace)

    def test_true_and_false_are_no_whole_numbers(self):
        for first, many in ((False, 1), (True, 1), (0, True), (True, True), (1, False)):
            self.assertIs(told(family, FILES, "one", first, many), NoPlace)

    def test_first_from_0_and_many_from_1(self):
        for first, many in ((-1, 1), (-1, 2), (-4, 4), (-10 ** 30, 1), (0, 0), (1, 0), (4, 0), (0, -1), (3, -1),
                            (10, -8), (-3, -1)):
            self.assertIs(told(family, FILES, "one", first, many), NoPlace)

    def test_a_stretch_that_goes_beyond_the_end(self):
        for first in range(4):
            self.assertIn(("one", first), family(FILES, "one", first, 4 - first))
            self.assertIs(told(family, FILES, "one", first, 5 - first), NoPlace)
        for first, many in ((4, 1), (5, 1), (10 ** 30, 1), (0, 10 ** 30), (10 ** 30, 10 ** 30)):
            self.assertIs(told(family, FILES, "one", first, many), NoPlace)
        self.assertIs(told(family, [("f", [])], "f", 0, 1), NoPlace)

    def test_no_title_comes_ahead_of_no_place(self):
        for title in (None, True, [], "three"):
            for first, many in ((-1, 1), (0, 0), (None, None), (0, 99), ("0", [])):
                self.assertIs(told(family, FILES, title, first, many), NoTitle)


class FamiliesTest(unittest.TestCase):
    def test_closed_families(self):
        self.assertEqual(families(FILES), [(3, [("one", 0), ("two", 0), ("two", 4)])])

    def test_a_part_of_the_members_may_go_on(self):
        files = [("a", stretch_of("1", "2", "3", "4")), ("b", stretch_of("1", "2", "3", "4")),
                 ("c", stretch_of("1", "2", "3", "5"))]
        self.assertEqual(families(files), [(3, [("a", 0), ("b", 0), ("c", 0)]), (4, [("a", 0), ("b", 0)])])

    def test_all_members_go_on_ahead_or_behind(self):
        files = [("a", stretch_of("1", "2", "3", "4", "x")), ("b", stretch_of("1", "2", "3", "4", "5"))]
        self.assertEqual(families(files, 1), [(4, [("a", 0), ("b", 0)])])

    def test_closed_by_unlike_members_ahead_and_behind(self):
        # The first two go on together behind, the last two ahead; the first and the last are a greatest pair.
        files = [("a", stretch_of("x +", "1", "2", "3", "4")), ("b", stretch_of("7", "1", "2", "3", "4")),
                 ("c", stretch_of("7", "1", "2", "3", "-"))]
        self.assertEqual(families(files),
                         [(3, [("a", 1), ("b", 1), ("c", 1)]), (4, [("a", 1), ("b", 1)]), (4, [("b", 0), ("c", 0)])])

    def test_closed_by_the_end_or_the_beginning_of_a_file(self):
        files = [("a", stretch_of("1", "2", "3")), ("b", stretch_of("0", "1", "2", "3", "4")),
                 ("c", stretch_of("0", "1", "2", "3", "4"))]
        self.assertEqual(families(files), [(3, [("a", 0), ("b", 1), ("c", 1)]), (5, [("b", 0), ("c", 0)])])

    def test_many_like_rows(self):
        for row in ([], ["a"], ["if", "7"]):
            for least in range(1, 5):
                told_ones = families([("f", [row] * 6)], least)
                self.assertEqual(told_ones, [(many, [("f", first) for first in range(7 - many)])
                                             for many in range(least, 6)])

    def test_order(self):
        files = [("b", stretch_of("1", "2", "3")), ("a", stretch_of("3", "1", "2")), ("B", stretch_of("2", "3", "1"))]
        self.assertEqual(families(files, 1), [
            (1, [("B", 0), ("a", 2), ("b", 1)]), (2, [("B", 0), ("b", 1)]), (1, [("B", 1), ("a", 0), ("b", 2)]),
            (2, [("B", 1), ("a", 0)]), (1, [("B", 2), ("a", 1), ("b", 0)]), (2, [("a", 1), ("b", 0)])])

    def test_the_order_of_the_files_is_free(self):
        for seed in range(30):
            files = any_files(seed)
            self.assertEqual(families(files[::-1], 1), families(files, 1))

    def test_three_where_none_is_told(self):
        files = [("a", stretch_of("1", "2", "5")), ("b", stretch_of("1", "2", "6"))]
        self.assertEqual(families(files), [])
        self.assertEqual(families(files, 3), [])
        self.assertEqual(families(files, 2), [(2, [("a", 0), ("b", 0)])])

    def test_least_from_1_to_10(self):
        for seed in range(30):
            files = any_files(seed, 14)
            all_of_them = families(files, 1)
            for least in range(1, 11):
                self.assertEqual(families(files, least), [row for row in all_of_them if row[0] >= least])

    def test_none(self):
        for files in ([], [("a", [])], [("a", LOOP)], [("a", [["1"]]), ("b", [["2"]])]):
            self.assertEqual(families(files, 1), [])

    def test_held_against_a_look_at_each_stretch(self):
        some = 0
        for seed in range(150):
            files = any_files(seed, 7)
            for least in (1, 3):
                told_ones = families(files, least)
                self.assertEqual(told_ones, plain_families(files, least), files)
                some += bool(told_ones)
        self.assertGreater(some, 100)

    def test_twelve_files_of_like_rows(self):
        files = [(f"f{at}", [["a", "b"] * 15] * 8) for at in range(12)]
        told_ones = families(files)
        self.assertEqual([many for many, members in told_ones], [3, 4, 5, 6, 7, 8])
        self.assertEqual([len(members) for many, members in told_ones], [72, 60, 48, 36, 24, 12])

    def test_sixty_rows_of_thirty_unlike_names(self):
        rows = [[f"n{30 * row + word}" for word in range(30)] for row in range(60)]
        told_ones = families([("f", rows), ("g", rows[:40])], 10)
        self.assertEqual([many for many, members in told_ones], list(range(10, 60)))
        self.assertEqual(told_ones[0][1], [("f", first) for first in range(51)] + [("g", first) for first in range(31)])


class OverAllTest(unittest.TestCase):
    def test_each_greatest_pair_stands_in_one_told_family(self):
        for seed in range(80):
            files = any_files(seed)
            told_ones = families(files, 2)
            for title, first, other, second, many in pairs(files, 2):
                both = [members for size, members in told_ones
                        if size == many and (title, first) in members and (other, second) in members]
                self.assertEqual(len(both), 1)

    def test_each_told_family_has_a_greatest_pair(self):
        for seed in range(80):
            files = any_files(seed)
            greatest = pairs(files, 2)
            for many, members in families(files, 2):
                self.assertTrue([pair for pair in greatest
                                 if pair[4] == many and pair[:2] in members and pair[2:4] in members])

    def test_any_two_members_lie_within_a_greatest_pair(self):
        for seed in range(60):
            files = any_files(seed)
            greatest = pairs(files, 2)
            for title, first, many in stretches_in(files):
                for other, second in family(files, title, first, many):
                    if many >= 2 and (title, first) < (other, second):
                        around = [pair for pair in greatest if pair[0] == title and pair[2] == other
                                  and first - pair[1] == second - pair[3] >= 0
                                  and first + many <= pair[1] + pair[4]]
                        self.assertTrue(around, (files, title, first, other, second, many))

    def test_files_renamed_each_by_a_renaming_of_its_own(self):
        chance = random.Random(19)
        for seed in range(60):
            files = any_files(seed)
            others = [(title, renamed(rows, list(zip("abc", chance.sample("abcdef", 3))))) for title, rows in files]
            self.assertEqual(families(others, 1), families(files, 1))
            for title, first, many in stretches_in(files):
                self.assertEqual(family(others, title, first, many), family(files, title, first, many))


class OwnTest(unittest.TestCase):
    """Promise 1: what is handed in stays, and what is told is the asker's own."""

    def test_what_is_handed_in_stays(self):
        before = copy.deepcopy(FILES)
        for title, first, many in (("one", 0, 3), ("one", 0, 9), (None, 0, 1), ("two", [], {})):
            told(family, FILES, title, first, many)
        families(FILES, 1)
        self.assertEqual(FILES, before)

    def test_changing_what_is_told_or_was_handed_in(self):
        files = copy.deepcopy(FILES)
        whole, members = families(files), family(files, "one", 0, 3)
        whole[0][1].append("x")
        whole.append("y")
        members.append("z")
        self.assertEqual(families(files), families(FILES))
        self.assertEqual(family(files, "one", 0, 3), family(FILES, "one", 0, 3))
        whole, members = families(files), family(files, "one", 0, 3)
        files[0][1].clear()
        files.pop()
        self.assertEqual(whole, families(FILES))
        self.assertEqual(members, family(FILES, "one", 0, 3))

    def test_kinds(self):
        many, members = families(FILES)[0]
        self.assertEqual((type(families(FILES)[0]), type(many), type(members)), (tuple, int, list))
        self.assertEqual({type(member) for member in members + family(FILES, "one", 0, 1)}, {tuple})

    def test_arguments_by_name(self):
        self.assertEqual(family(many=3, first=4, title="two", files=FILES), family(FILES, "two", 4, 3))
        self.assertEqual(families(least=1, files=FILES), families(FILES, 1))
        self.assertEqual(families(files=FILES), families(FILES))


if __name__ == "__main__":
    unittest.main()
