"""Where parts fit a form, and stand apart: promises 71 to 73."""

import copy
import itertools
import random
import unittest

from kinrows.errors import BadForm, KinError, NoRows
from kinrows.forms import fillings
from kinrows.spots import apart, fitting, stakes
from tests.looks import any_form, any_rows, plain_holes, put_under, stretch_of
from tests.things import no_forms


def told(call, *things):
    try:
        return call(*things)
    except KinError as refusal:
        return refusal.__class__


class FittingTest(unittest.TestCase):
    def test_parts_that_fit(self):
        stretch = stretch_of("x = 1", "if x", "y = 2", "if x", "y = 1", "if y")
        self.assertEqual(fitting(stretch, [[0, "=", 1], ["if", 0]]), [0, 4])
        self.assertEqual(fitting(stretch, [[0, "=", 1], ["if", 2]]), [0, 2, 4])
        self.assertEqual(fitting(stretch, [["if", 0]]), [1, 3, 5])
        self.assertEqual(fitting(stretch, stretch_of("if x")), [1, 3])
        self.assertEqual(fitting(stretch=stretch, form=[["if", "z"]]), [])

    def test_parts_may_overlap(self):
        self.assertEqual(fitting([["a"]] * 4, [[0], [0]]), [0, 1, 2])
        self.assertEqual(fitting([[]] * 3, [[]]), [0, 1, 2])

    def test_the_whole_stretch_and_one_row_more(self):
        self.assertEqual(fitting([["a"], ["b"]], [[0], [1]]), [0])
        self.assertEqual(fitting([["a"], ["b"]], [[0], [1], [2]]), [])
        self.assertEqual(fitting([], [[0]]), [])
        self.assertEqual(fitting([[]] * 60, [[]] * 60), [0])

    def test_refused(self):
        for form in no_forms():
            self.assertIs(told(fitting, [["a"]], form), BadForm)
            self.assertIs(told(fitting, [], form), BadForm)
        for stretch in ([], [["a"]], [[]]):
            self.assertIs(told(fitting, stretch, []), NoRows)

    def test_by_chance(self):
        many = 0
        for seed in range(400):
            chance = random.Random(seed)
            words = ["a", "b", "1"]
            stretch = any_rows(chance, words, chance.randrange(9), 2)
            form = any_form(chance, [chance.randrange(3) for row in range(chance.randrange(1, 3))], words[:1], 3)
            wanted = []
            for first in range(len(stretch)):
                part = stretch[first:first + len(form)]
                if any(put_under(form, filling) == part
                       for filling in itertools.product(words, repeat=len(plain_holes(form)))):
                    wanted.append(first)
            found = fitting(stretch, form)
            self.assertEqual(found, wanted)
            for first in found:
                self.assertIsNotNone(fillings(form, stretch[first:first + len(form)]))
            many += len(found)
        self.assertGreater(many, 200)


class ApartTest(unittest.TestCase):
    def test_in_any_order_and_twice(self):
        self.assertEqual(apart([7, 0, 3, 3, 1, 0, 6], 3), [0, 3, 6])
        self.assertEqual(stakes([7, 0, 3, 3, 1, 0, 6], 3), [2, 5, 8])
        self.assertEqual(apart([5, 5, 5], 1), [5])
        self.assertEqual(stakes([5, 5, 5], 1), [5])
        self.assertEqual((apart([], 4), stakes([], 4)), ([], []))

    def test_edges(self):
        self.assertEqual(apart([0, 1, 2], 1), [0, 1, 2])
        self.assertEqual(apart([0, 1, 2], 2), [0, 2])
        self.assertEqual(apart([0, 1000], 1000), [0, 1000])
        self.assertEqual(apart([1, 1000], 1000), [1])
        self.assertEqual(stakes([0, 1000], 1000), [999, 1999])
        self.assertEqual(apart(list(range(100)), 1), list(range(100)))
        self.assertEqual(stakes(firsts=[4, 2], many=2), [3, 5])
        self.assertEqual(apart(firsts=[4, 2], many=2), [2, 4])

    def test_by_chance(self):
        for seed in range(400):
            chance = random.Random(seed)
            firsts = [chance.randrange(15) for first in range(chance.randrange(9))]
            many = chance.randrange(1, 6)
            found, ends = apart(firsts, many), stakes(firsts, many)
            self.assertEqual((found, ends), self.plain_apart(firsts, many))
            self.assertEqual(len(found), self.most_apart(firsts, many))
            for first in firsts:
                self.assertTrue(any(first <= end < first + many for end in ends))

    def plain_apart(self, firsts, many):
        """[72, 73] word by word."""
        left, found = list(firsts), []
        while left:
            found.append(min(left))
            left = [first for first in left if first >= found[-1] + many]
        return found, [first + many - 1 for first in found]

    def most_apart(self, firsts, many):
        """How many parts can stand apart, by a look at all choices."""
        best = 0
        for count in range(1, len(firsts) + 1):
            for chosen in itertools.combinations(firsts, count):
                rows = [row for first in chosen for row in range(first, first + many)]
                if len(rows) == len(set(rows)):
                    best = count
        return best


class OwnTest(unittest.TestCase):
    def test_what_was_handed_in_stays(self):
        for call, *things in ((fitting, stretch_of("a", "b"), [[0]]), (apart, [3, 1, 2], 1), (stakes, [3, 1, 2], 1)):
            before = copy.deepcopy(things)
            found = call(*things)
            self.assertTrue(found)
            found.clear()
            self.assertEqual(things, before)
        firsts = [1, 2]
        apart(firsts, 1).append(9)
        self.assertEqual(firsts, [1, 2])


if __name__ == "__main__":
    unittest.main()
