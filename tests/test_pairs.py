"""Promises 17 to 20, and 1 and 5 as far as greatest pairs go."""

import copy
import random
import unittest

from kinrows.pairs import pairs
from kinrows.renamings import renamed
from tests.looks import any_files, any_rows, plain_pairs, stretch_of

LOOP = stretch_of("for k in rows do", "total = total + k", "end")
COPY = stretch_of("for x in list do", "sum = sum + x", "end")
# Rows that are twins of no others.
STOPS = stretch_of("1", "2", "3", "4", "5", "6", "7", "8", "9", "10")


def numbered_rows(many, start=0):
    return [[str(start + row)] for row in range(many)]


def any_renaming(chance):
    return list(zip("abc", chance.sample("abcdef", 3)))


def touches(first, many, row):
    """[20]: whether a stretch holds a row, begins just behind it, or ends just ahead of it."""
    return first - 1 <= row <= first + many


class TwoFilesTest(unittest.TestCase):
    def test_a_copy_with_other_names(self):
        self.assertEqual(pairs([("b", COPY), ("a", LOOP)]), [("a", 0, "b", 0, 3)])

    def test_inside_the_files(self):
        one = STOPS[:2] + LOOP + STOPS[2:3]
        other = STOPS[3:4] + COPY + STOPS[4:8]
        self.assertEqual(pairs([("one", one), ("other", other)]), [("one", 2, "other", 1, 3)])

    def test_at_the_beginning_and_at_the_end(self):
        self.assertEqual(pairs([("a", LOOP + STOPS[:1]), ("b", STOPS[1:3] + COPY)]), [("a", 0, "b", 2, 3)])
        self.assertEqual(pairs([("a", STOPS[:1] + LOOP), ("b", COPY + STOPS[1:3])]), [("a", 1, "b", 0, 3)])

    def test_rows_alike_beyond_the_stretch_belong_to_it(self):
        one, other = [["x", "+", "x"]] + LOOP + [["k"]], [["y", "+", "y"]] + COPY + [["x"]]
        self.assertEqual(pairs([("a", one), ("b", other)]), [("a", 0, "b", 0, 5)])

    def test_no_longer_where_names_are_led_elsewhere(self):
        one, other = LOOP + [["k"]], COPY + [["list"]]
        self.assertEqual(pairs([("a", one), ("b", other)]), [("a", 0, "b", 0, 3)])

    def test_two_greatest_ones_overlap(self):
        # The first name is led to x by the first row, to y by the last; the rows between go with either.
        one = stretch_of("k", "1", "2", "3", "k")
        other = stretch_of("x", "1", "2", "3", "y")
        self.assertEqual(pairs([("a", one), ("b", other)]), [("a", 0, "b", 0, 4), ("a", 1, "b", 1, 4)])

    def test_a_name_that_is_led_in_the_middle(self):
        one = stretch_of("a b", "1", "a", "b a", "2")
        other = stretch_of("a b", "1", "a", "c a", "2")
        self.assertEqual(pairs([("f", one), ("g", other)], 1),
                         plain_pairs([("f", one), ("g", other)], 1))
        self.assertEqual(pairs([("f", one), ("g", other)]), [("f", 0, "g", 0, 3), ("f", 1, "g", 1, 4)])

    def test_titles_in_pythons_order(self):
        files = [("b", LOOP), ("_", LOOP), ("B", LOOP), ("a9", LOOP), ("if", LOOP)]
        told = [(title, other) for title, first, other, second, many in pairs(files)]
        titles = ["B", "_", "a9", "b", "if"]
        self.assertEqual(told, [(one, other) for one in titles for other in titles if one < other])

    def test_the_order_of_the_files_is_free(self):
        for seed in range(30):
            files = any_files(seed)
            self.assertEqual(pairs(files[::-1], 1), pairs(files, 1))

    def test_no_files_and_files_without_rows(self):
        for files in ([], [("a", [])], [("a", []), ("b", [])], [("a", LOOP), ("b", [])]):
            self.assertEqual(pairs(files, 1), [])

    def test_rows_without_words(self):
        self.assertEqual(pairs([("a", [[], []]), ("b", [[]])], 1),
                         [("a", 0, "a", 1, 1), ("a", 0, "b", 0, 1), ("a", 1, "b", 0, 1)])
        self.assertEqual(pairs([("a", [[], [], []]), ("b", [[], [], []])]), [("a", 0, "b", 0, 3)])

    def test_the_first_row_of_a_file_has_nothing_ahead(self):
        # Going on from one file's end to the next one's beginning would make these longer.
        files = [("a", stretch_of("1", "2")), ("b", stretch_of("3", "1")), ("c", stretch_of("2", "3"))]
        self.assertEqual(pairs(files, 1), [("a", 0, "b", 1, 1), ("a", 1, "c", 0, 1), ("b", 0, "c", 1, 1)])


class OneFileTest(unittest.TestCase):
    def test_a_copy_in_the_same_file(self):
        self.assertEqual(pairs([("f", LOOP + STOPS[:1] + COPY)]), [("f", 0, "f", 4, 3)])

    def test_many_like_rows(self):
        for row in ([], ["if"], ["a"], ["a", "+", "a"], ["a", "b"]):
            for many in range(8):
                told = pairs([("f", [row] * many)], 1)
                self.assertEqual(told, [("f", 0, "f", by, many - by) for by in range(1, many)])

    def test_rows_of_ever_new_names(self):
        rows = [[f"n{row}", "=", f"m{row}"] for row in range(7)]
        self.assertEqual(pairs([("f", rows)]), [("f", 0, "f", by, 7 - by) for by in range(1, 5)])

    def test_overlapping_stretches(self):
        rows = stretch_of("a = 1", "b = 2", "a = 1", "b = 2", "a = 1")
        self.assertEqual(pairs([("f", rows)]), [("f", 0, "f", 2, 3)])
        self.assertEqual(pairs([("f", rows)], 1), [("f", 0, "f", 2, 3), ("f", 0, "f", 4, 1)])

    def test_overlapping_stretches_whose_names_go_on_in_a_chain(self):
        rows = stretch_of("a b", "b c", "c d", "d e", "e f")
        self.assertEqual(pairs([("f", rows)], 1), [("f", 0, "f", by, 5 - by) for by in range(1, 5)])

    def test_no_row_is_paired_with_itself(self):
        self.assertEqual(pairs([("f", STOPS)], 1), [])
        self.assertEqual(pairs([("f", LOOP)], 3), [])


class LeastTest(unittest.TestCase):
    def test_three_where_none_is_told(self):
        files = [("a", STOPS[:2]), ("b", STOPS[:2]), ("c", LOOP), ("d", COPY)]
        self.assertEqual(pairs(files), [("c", 0, "d", 0, 3)])
        self.assertEqual(pairs(files), pairs(files, 3))
        self.assertEqual(pairs(files, 2), [("a", 0, "b", 0, 2), ("c", 0, "d", 0, 3)])

    def test_from_1_to_10(self):
        rows = {many: numbered_rows(many, 100 * many) for many in range(1, 11)}
        files = [("a", [row for many in rows for row in rows[many] + [["x"] * many]]),
                 ("b", [row for many in rows for row in rows[many] + [["+"] * many]])]
        for least in range(1, 11):
            told = [many for title, first, other, second, many in pairs(files, least) if title != other]
            self.assertEqual(sorted(told), list(range(least, 11)))

    def test_of_more_are_those_of_fewer_that_are_long_enough(self):
        for seed in range(40):
            files = any_files(seed)
            all_of_them = pairs(files, 1)
            for least in range(1, 11):
                self.assertEqual(pairs(files, least), [told for told in all_of_them if told[4] >= least])


class PlainLookTest(unittest.TestCase):
    def test_held_against_a_look_at_each_two_stretches(self):
        some = 0
        for seed in range(250):
            files = any_files(seed, 7)
            for least in (1, 2, 3):
                told = pairs(files, least)
                self.assertEqual(told, plain_pairs(files, least), files)
                some += bool(told)
        self.assertGreater(some, 300)

    def test_rows_of_few_names(self):
        chance = random.Random(18)
        for turn in range(60):
            files = [("f", any_rows(chance, ["a", "b"], 6, 2)), ("g", any_rows(chance, ["a", "b"], 5, 2))]
            self.assertEqual(pairs(files, 1), plain_pairs(files, 1), files)


class OverAllTest(unittest.TestCase):
    def test_pairs_of_two_files_hang_on_these_alone(self):
        for seed in range(60):
            files = any_files(seed)
            told = pairs(files, 1)
            for one in files:
                self.assertEqual(pairs([one], 1), [pair for pair in told if pair[0] == pair[2] == one[0]])
                for other in files:
                    if one[0] < other[0]:
                        alone = [pair for pair in pairs([one, other], 1) if pair[0] != pair[2]]
                        self.assertEqual(alone, [pair for pair in told if (pair[0], pair[2]) == (one[0], other[0])])

    def test_files_renamed_each_by_a_renaming_of_its_own(self):
        chance = random.Random(19)
        for seed in range(80):
            files = any_files(seed)
            others = [(title, renamed(rows, any_renaming(chance))) for title, rows in files]
            self.assertEqual(pairs(others, 1), pairs(files, 1))

    def test_one_row_changed_changes_only_what_is_near(self):
        chance = random.Random(20)
        for seed in range(120):
            files = [file for file in any_files(seed) if file[1]]
            if not files:
                continue
            title, rows = chance.choice(files)
            row = chance.randrange(len(rows))
            before = pairs(files, 1)
            rows[row] = any_rows(chance, ["a", "b", "if", "7"], 1, 3)[0]
            for told in set(before) ^ set(pairs(files, 1)):
                near = (told[0] == title and touches(told[1], told[4], row)
                        or told[2] == title and touches(told[3], told[4], row))
                self.assertTrue(near, (files, told, title, row))


class LargeTest(unittest.TestCase):
    """[5]: 12 files, 60 rows in a stretch, 100 rows in all, rows of 30 words."""

    def test_twelve_files_of_like_rows(self):
        titles = [chr(97 + at) * 20 for at in range(12)]
        files = [(title, [["x", "=", "y"]] * 8) for title in titles]
        told = pairs(files)
        self.assertEqual(len(told), 66 * 11 + 12 * 5)
        self.assertIn((titles[0], 0, titles[11], 0, 8), told)
        self.assertEqual(told, sorted(told))

    def test_sixty_like_rows_of_thirty_names(self):
        row = [f"n{word}" for word in range(30)]
        files = [("a", [list(row) for at in range(60)]), ("b", [row[::-1] for at in range(40)])]
        told = pairs(files, 10)
        self.assertEqual([pair for pair in told if pair[2] == "a"], [("a", 0, "a", by, 60 - by) for by in range(1, 51)])
        self.assertIn(("a", 0, "b", 0, 40), told)
        self.assertIn(("a", 20, "b", 0, 40), told)

    def test_long_rows_of_many_unlike_names(self):
        one = [[f"n{30 * row + word}" for word in range(30)] for row in range(50)]
        other = [[f"m{30 * row + word}" for word in range(30)] for row in range(50)]
        self.assertIn(("a", 0, "b", 0, 50), pairs([("a", one), ("b", other)]))
        other[49][29] = "m3"
        told = [pair for pair in pairs([("a", one), ("b", other)]) if pair[1] == pair[3]]
        self.assertEqual(told, [("a", 0, "b", 0, 49), ("a", 1, "b", 1, 49)])


class OwnTest(unittest.TestCase):
    """Promise 1: what is handed in stays, and what is told is the asker's own."""

    def test_what_is_handed_in_stays(self):
        for seed in range(20):
            files = any_files(seed)
            before = copy.deepcopy(files)
            pairs(files, 1)
            self.assertEqual(files, before)

    def test_changing_what_is_told_or_was_handed_in(self):
        files = [("a", copy.deepcopy(LOOP)), ("b", copy.deepcopy(COPY))]
        told = pairs(files)
        told.append("x")
        self.assertEqual(pairs(files), [("a", 0, "b", 0, 3)])
        told = pairs(files)
        files[0][1][0].append("x")
        files.pop()
        self.assertEqual(told, [("a", 0, "b", 0, 3)])
        self.assertEqual(pairs(files, 1), [])

    def test_kinds(self):
        told = pairs([("a", LOOP), ("b", COPY)])
        self.assertEqual((type(told), [type(thing) for thing in told[0]]), (list, [str, int, str, int, int]))
        self.assertIs(type(told[0]), tuple)

    def test_arguments_by_name(self):
        self.assertEqual(pairs(files=[("a", LOOP), ("b", COPY)]), [("a", 0, "b", 0, 3)])
        self.assertEqual(pairs(least=4, files=[("a", LOOP), ("b", COPY)]), [])


if __name__ == "__main__":
    unittest.main()
