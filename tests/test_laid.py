"""Promises 33 to 36, and 1 and 6 as far as laid rows go."""

import copy
import itertools
import random
import unittest

from kinrows.errors import TooLong
from kinrows.laid import laid, near
from tests.looks import any_copy, any_rows, are_twins, stretch_of

ONE = stretch_of("for k in rows do", "total = total + k", "end")
OTHER = stretch_of("for x in list do", "show x", "sum = sum + x", "end")
LONG = [[str(row)] for row in range(13)]


def told(call, *things):
    """What a call tells, or the class of its refusal."""
    try:
        return call(*things)
    except TooLong:
        return TooLong


def all_layings(one, other):
    """[33]: all lists of pairs of rows, of one pair at least, by a look at all rows that may be taken."""
    found = []
    for many in range(1, min(len(one), len(other)) + 1):
        for mine in itertools.combinations(range(len(one)), many):
            for yours in itertools.combinations(range(len(other)), many):
                if are_twins([one[row] for row in mine], [other[row] for row in yours]):
                    found.append(list(zip(mine, yours)))
    return found


def left_out(one, other, laying):
    return len(one) + len(other) - 2 * len(laying)


def plain_laid(one, other, most, layings):
    """[34] of all layings."""
    good = [(left_out(one, other, laying), laying) for laying in layings]
    return min([told_one for told_one in good if told_one[0] <= most], default=(0, None))[1]


def plain_near(one, rows, most):
    """[35] part by part."""
    found = []
    for first in range(len(rows)):
        for many in range(1, len(rows) - first + 1):
            part = rows[first:first + many]
            lefts = [left_out(one, part, laying) for laying in all_layings(one, part)
                     if laying[0][1] == 0 and laying[-1][1] == many - 1]
            if min(lefts, default=most + 1) <= most:
                found.append((first, many, min(lefts)))
    return sorted(found)


def any_two(chance, most_rows):
    """Two stretches, the second often a copy of the first with rows put in and cut out."""
    words = chance.choice([["a", "b"], ["a", "if"], ["a", "b", "c", "7"], ["1", "2", "3"]])
    one = any_rows(chance, words, chance.randrange(most_rows + 1), 2)
    other = any_copy(chance, one, ["a", "b", "c"])
    for change in range(chance.randrange(4)):
        at = chance.randrange(len(other) + 1)
        other[at:at + chance.randrange(2)] = any_rows(chance, words, chance.randrange(2), 2)
    return one, other[:most_rows]


class LaidTest(unittest.TestCase):
    def test_rows_left_out_of_either(self):
        self.assertEqual(laid(ONE, OTHER, 1), [(0, 0), (1, 2), (2, 3)])
        self.assertEqual(laid(OTHER, ONE, 1), [(0, 0), (2, 1), (3, 2)])

    def test_rows_left_out_of_both(self):
        one, other = stretch_of("1", "2", "3", "a"), stretch_of("1", "+", "3", "b")
        self.assertEqual(laid(one, other, 2), [(0, 0), (2, 2), (3, 3)])
        self.assertIsNone(laid(one, other, 1))
        self.assertIsNone(laid(one, other, 0))

    def test_none_left_out_of_twins(self):
        for most in range(4):
            self.assertEqual(laid(ONE, ONE, most), [(0, 0), (1, 1), (2, 2)])
        self.assertEqual(laid(stretch_of("a b"), stretch_of("b a"), 0), [(0, 0)])

    def test_one_renaming_for_all(self):
        one, other = stretch_of("a", "a", "1"), stretch_of("b", "c", "1")
        self.assertIsNone(laid(one, other, 0))
        self.assertIsNone(laid(one, other, 1))
        self.assertEqual(laid(one, other, 2), [(0, 0), (2, 2)])
        self.assertEqual(laid(stretch_of("a", "b", "a"), stretch_of("x", "y", "z"), 3), [(0, 0), (1, 1)])

    def test_names_of_rows_left_out_bind_nothing(self):
        one, other = stretch_of("a +", "a a", "a -"), stretch_of("b +", "c d", "b -")
        self.assertEqual(laid(one, other, 2), [(0, 0), (2, 2)])

    def test_fewest_left_out_ahead_of_the_least_list(self):
        one, other = stretch_of("1", "2", "3"), stretch_of("3", "2", "3", "1")
        # With five left out [(0, 3)] would be less.
        self.assertEqual(laid(one, other, 3), [(1, 1), (2, 2)])

    def test_the_least_list_of_several(self):
        self.assertEqual(laid([["1"]] * 2, [["1"]] * 3, 1), [(0, 0), (1, 1)])
        self.assertEqual(laid([["1"]] * 3, [["1"]] * 2, 3), [(0, 0), (1, 1)])
        self.assertEqual(laid(stretch_of("1", "2", "1"), stretch_of("2", "1", "2"), 2), [(0, 1), (1, 2)])
        self.assertEqual(laid(stretch_of("1", "2"), stretch_of("2", "1"), 2), [(0, 1)])

    def test_the_least_list_goes_pair_by_pair(self):
        # Rows 0 and 1 of one could be laid, too, but to later rows: (0, 2), (1, 3).
        one, other = stretch_of("a", "a 2", "3"), stretch_of("b", "3", "c", "c 2")
        self.assertEqual(laid(one, other, 3), [(0, 0), (2, 1)])
        self.assertEqual(laid(one[:2], other[2:], 3), [(0, 0), (1, 1)])

    def test_at_least_one_row_is_laid(self):
        self.assertIsNone(laid([["1"]], [["2"]], 3))
        self.assertIsNone(laid([], [], 0))
        self.assertIsNone(laid([], [], 3))
        self.assertIsNone(laid([], [["a"]], 3))
        self.assertIsNone(laid([["a"]] * 3, [], 3))

    def test_not_more_than_most(self):
        for more in range(6):
            for most in range(4):
                wanted = [(0, 0), (1, 1)] if more <= most else None
                self.assertEqual(laid([["a"], []], [["b"], []] + LONG[:more], most), wanted)
                self.assertEqual(laid([["b"], []] + LONG[:more], [["a"], []], most), wanted)

    def test_rows_without_words_and_like_rows(self):
        self.assertEqual(laid([[], []], [[]], 1), [(0, 0)])
        self.assertEqual(laid([[], ["a"]], [["b"], []], 2), [(0, 1)])
        self.assertEqual(laid([["a"]] * 4, [["b"]] * 4, 3), [(0, 0), (1, 1), (2, 2), (3, 3)])
        self.assertEqual(laid([["a"]] * 5, [["b"]] * 2, 3), [(0, 0), (1, 1)])

    def test_12_and_13_rows(self):
        self.assertEqual(laid(LONG[:12], LONG[:12], 0), [(row, row) for row in range(12)])
        self.assertEqual(laid(LONG[1:], LONG[:12], 3), [(row, row + 1) for row in range(11)])
        self.assertEqual(laid(LONG[:12], LONG[1:10], 3), [(row + 1, row) for row in range(9)])
        for one, other in ((LONG, LONG), (LONG, []), ([], LONG), (LONG, LONG[:12]), (LONG[:12], LONG)):
            for most in range(4):
                self.assertIs(told(laid, one, other, most), TooLong)
        self.assertIs(told(laid, [[]] * 60, [["a"]], 0), TooLong)

    def test_long_rows(self):
        one = [[f"n{30 * row + word}" for word in range(30)] for row in range(12)]
        other = [[f"m{30 * row + word}" for word in range(30)] for row in range(9)]
        self.assertEqual(laid(one, other, 3), [(row, row) for row in range(9)])
        self.assertEqual(laid(one, one[:11] + [["+"]], 2), [(row, row) for row in range(11)])

    def test_held_against_a_look_at_all_ways(self):
        chance = random.Random(34)
        some = [0, 0]
        for turn in range(400):
            one, other = any_two(chance, 5)
            layings = all_layings(one, other)
            for most in range(4):
                told_one = laid(one, other, most)
                self.assertEqual(told_one, plain_laid(one, other, most, layings), (one, other, most))
                some[told_one is None] += 1
        self.assertGreater(min(some), 200)

    def test_stretches_of_all_small_rows(self):
        rows = [[], ["a"], ["b"]]
        stretches = [list(stretch) for many in range(4) for stretch in itertools.product(rows, repeat=many)]
        for one in stretches[::3]:
            for other in stretches:
                layings = all_layings(one, other)
                for most in (1, 3):
                    self.assertEqual(laid(one, other, most), plain_laid(one, other, most, layings), (one, other))


class NearTest(unittest.TestCase):
    def test_where_something_near_stands(self):
        rows = stretch_of("1") + OTHER + stretch_of("2")
        # The last two rows stand near, too: the first row of one is left out.
        self.assertEqual(near(ONE, rows, 1), [(1, 4, 1), (3, 2, 1)])
        self.assertEqual(near(ONE, rows, 0), [])
        self.assertEqual(near(OTHER, ONE, 1), [(0, 3, 1)])

    def test_rising_with_the_fewest_left_out(self):
        one = stretch_of("1", "2")
        self.assertEqual(near(one, stretch_of("1", "2", "2"), 1),
                         [(0, 1, 1), (0, 2, 0), (0, 3, 1), (1, 1, 1), (2, 1, 1)])

    def test_first_and_last_row_are_laid(self):
        self.assertEqual(near([["1"]], stretch_of("2", "1", "2"), 3), [(1, 1, 0)])
        self.assertEqual(near([["1"], ["2"]], stretch_of("1", "3", "2", "3"), 1), [(0, 1, 1), (0, 3, 1), (2, 1, 1)])

    def test_rows_left_out_of_both(self):
        one, rows = stretch_of("1", "2", "3"), stretch_of("1", "+", "3")
        self.assertEqual(near(one, rows, 1), [])
        self.assertEqual(near(one, rows, 2), [(0, 1, 2), (0, 3, 2), (2, 1, 2)])

    def test_without_rows(self):
        for most in range(4):
            self.assertEqual(near([], [], most), [])
            self.assertEqual(near([], [["a"], []], most), [])
            self.assertEqual(near([["a"]], [], most), [])

    def test_rows_without_words_and_like_rows(self):
        self.assertEqual(near([[]], [[], ["a"], []], 0), [(0, 1, 0), (2, 1, 0)])
        self.assertEqual(near([["a"]] * 2, [["b"]] * 4, 0), [(0, 2, 0), (1, 2, 0), (2, 2, 0)])
        self.assertEqual(near([["a"]] * 2, [["b"]] * 3, 1), [(0, 1, 1), (0, 2, 0), (0, 3, 1), (1, 1, 1), (1, 2, 0),
                                                           (2, 1, 1)])

    def test_one_renaming_for_all(self):
        self.assertEqual(near(stretch_of("a", "1", "a"), stretch_of("b", "1", "c"), 0), [])
        self.assertEqual(near(stretch_of("a", "1", "a"), stretch_of("b", "1", "b"), 0), [(0, 3, 0)])

    def test_6_and_7_and_12_and_13_rows(self):
        self.assertEqual(near(LONG[:6], LONG[:12], 0), [(0, 6, 0)])
        self.assertEqual(near(LONG[6:12], LONG[:12], 0), [(6, 6, 0)])
        for one, rows in ((LONG[:7], LONG[:12]), (LONG[:7], []), (LONG[:6], LONG), ([], LONG), (LONG, LONG)):
            for most in range(4):
                self.assertIs(told(near, one, rows, most), TooLong)

    def test_long_like_rows(self):
        row = [f"n{word}" for word in range(30)]
        told_ones = near([row] * 6, [row[::-1]] * 12, 3)
        self.assertEqual(told_ones, [(first, many, abs(many - 6)) for first in range(12) for many in range(3, 10)
                                     if first + many <= 12])

    def test_held_against_a_look_at_all_ways(self):
        chance = random.Random(35)
        some = 0
        for turn in range(150):
            one, rows = any_two(chance, 5)
            rows = any_rows(chance, ["a", "1"], chance.randrange(2), 1) + rows
            for most in range(4):
                told_ones = near(one, rows, most)
                self.assertEqual(told_ones, plain_near(one, rows, most), (one, rows, most))
                some += bool(told_ones)
        self.assertGreater(some, 200)


class OwnTest(unittest.TestCase):
    """Promise 1: what is handed in stays, and what is told is the asker's own."""

    def test_what_is_handed_in_stays(self):
        for call in (laid, near):
            for things in ([ONE, OTHER, 1], [ONE, OTHER, 0], [LONG, ONE, 3], [[["a"], []], [[], ["b"]], 3]):
                before = copy.deepcopy(things)
                told(call, *things)
                self.assertEqual(things, before)

    def test_changing_what_is_told_or_was_handed_in(self):
        one, other = copy.deepcopy(ONE), copy.deepcopy(OTHER)
        for call in (laid, near):
            call(one, other, 1).append("x")
        pairs, parts = laid(one, other, 1), near(one, other, 1)
        one.clear()
        other[0][0] = "z"
        self.assertEqual((pairs, parts), ([(0, 0), (1, 2), (2, 3)], [(0, 4, 1), (2, 2, 1)]))
        self.assertEqual((laid(ONE, OTHER, 1), near(ONE, OTHER, 1)), (pairs, parts))

    def test_kinds(self):
        for result in (laid(ONE, OTHER, 1), near(ONE, OTHER, 1)):
            self.assertIs(type(result), list)
            self.assertEqual({type(row) for row in result}, {tuple})

    def test_arguments_by_name(self):
        self.assertEqual(laid(most=0, other=[["b"]], one=[["a"]]), [(0, 0)])
        self.assertEqual(near(most=0, rows=[["b"]], one=[["a"]]), [(0, 1, 0)])


if __name__ == "__main__":
    unittest.main()
