"""Promises 10 to 12, 15 and 16, and 1 as far as twins go."""

import copy
import itertools
import random
import unittest

from kinrows.renamings import followed, renamed, turned
from kinrows.twins import barred, mark, renaming
from kinrows.words import is_free
from tests.looks import any_copy, any_rows, are_twins, at, places, stretch_of

WORDS = ["a", "b", "c", "if", "7", "+"]
ONE = stretch_of("for k in rows do", "total = total + k", "end")
OTHER = stretch_of("for x in list do", "sum = sum + x", "end")


def plain_renaming(one, other):
    """[11] place by place, of twins."""
    found = []
    for place in places(one):
        pair = (at(one, place), at(other, place))
        if is_free(pair[0]) and pair not in found:
            found.append(pair)
    return found


def wrong_places(one, other):
    """[12]: all places that are wrong, each found for itself, in any order."""
    rows = min(len(one), len(other))
    found = [(rows, 0, "end", None)] if len(one) != len(other) else []
    for row in range(rows):
        if len(one[row]) != len(other[row]):
            found.append((row, min(len(one[row]), len(other[row])), "end", None))
    both = [place for place in places(one) if place in places(other)]
    names = [place for place in both if is_free(at(one, place)) and is_free(at(other, place))]
    for place in both:
        if place not in names and at(one, place) != at(other, place):
            found.append((*place, "unlike", None))
    for place in names:
        for earlier in names:
            if earlier < place and (at(one, earlier) == at(one, place)) != (at(other, earlier) == at(other, place)):
                found.append((*place, "led", earlier))
    return found


def plain_barred(one, other):
    # Where a place is led from several places ahead the first one is told; other reasons shut each other out.
    return min(wrong_places(one, other), key=lambda wrong: (wrong[:2], wrong[3] or ()), default=None)


def plain_mark(stretch):
    """[15] name by name."""
    free = [at(stretch, place) for place in places(stretch) if is_free(at(stretch, place))]
    ahead = {name: len(set(free[:free.index(name)])) for name in free}
    return [[ahead.get(word, word) for word in row] for row in stretch]


def small_stretches():
    """All stretches of at most two rows of at most two of a few words."""
    rows = [list(row) for many in range(3) for row in itertools.product(["a", "b", "if"], repeat=many)]
    return [list(stretch) for many in range(3) for stretch in itertools.product(rows, repeat=many)]


def any_two(chance):
    """Two stretches of which the second is often a copy of the first, or nearly so."""
    one = any_rows(chance, WORDS, chance.randrange(5), 4)
    other = any_copy(chance, one, ["a", "b", "c"])
    if chance.random() < 0.4 and other:
        chance.choice(other).append(chance.choice(WORDS))
    if chance.random() < 0.4 and places(other):
        row, word = chance.choice(places(other))
        other[row][word] = chance.choice(WORDS)
    if chance.random() < 0.2:
        other.insert(chance.randrange(len(other) + 1), [])
    return one, other


class RenamingTest(unittest.TestCase):
    def test_twins(self):
        self.assertEqual(renaming(ONE, OTHER), [("k", "x"), ("rows", "list"), ("total", "sum")])
        self.assertEqual(renaming(OTHER, ONE), [("x", "k"), ("list", "rows"), ("sum", "total")])

    def test_names_that_stay_are_told(self):
        self.assertEqual(renaming([["a", "b", "a"]], [["a", "c", "a"]]), [("a", "a"), ("b", "c")])
        self.assertEqual(renaming(ONE, ONE), [("k", "k"), ("rows", "rows"), ("total", "total")])

    def test_names_that_are_swapped(self):
        self.assertEqual(renaming([["a", "b"]], [["b", "a"]]), [("a", "b"), ("b", "a")])
        self.assertEqual(renaming([["b", "a"]], [["a", "b"]]), [("b", "a"), ("a", "b")])
        self.assertEqual(renaming([["a", "b", "c"]], [["b", "c", "a"]]), [("a", "b"), ("b", "c"), ("c", "a")])

    def test_order_is_that_of_first_comings_over_all_rows(self):
        one = stretch_of("z", "y z", "", "x y z w")
        self.assertEqual([old for old, new in renaming(one, one)], ["z", "y", "x", "w"])

    def test_words_that_are_no_free_names_are_not_told(self):
        self.assertEqual(renaming([["if", "7", "+", "use"]], [["if", "7", "+", "use"]]), [])

    def test_great_letters_are_other_names(self):
        self.assertEqual(renaming([["a", "A"]], [["If", "b"]]), [("a", "If"), ("A", "b")])
        self.assertIsNone(renaming([["a", "A"]], [["b", "b"]]))

    def test_stretches_without_rows_and_rows_without_words(self):
        self.assertEqual(renaming([], []), [])
        self.assertEqual(renaming([[]], [[]]), [])
        self.assertEqual(renaming([[], ["a"], []], [[], ["b"], []]), [("a", "b")])

    def test_no_twins(self):
        for one, other in [
            ([["a"]], [["if"]]), ([["a"]], [["1"]]), ([["a"]], [["+"]]), ([["1"]], [["2"]]), ([["if"]], [["in"]]),
            ([["+"]], [["-"]]), ([["7"]], [["07"]]), ([["a", "a"]], [["a", "b"]]), ([["a", "b"]], [["a", "a"]]),
            ([["a"], ["a"]], [["a"], ["b"]]), ([["a"], ["b"]], [["a"], ["a"]]), ([[]], []), ([["a"]], []),
            ([["a"], []], [["a"]]), ([["a", "b"]], [["a"]]), ([["a"], ["b"]], [["a", "b"]]),
            ([["a", "b"], ["c"]], [["a"], ["b", "c"]]),
        ]:
            with self.subTest(one=one, other=other):
                self.assertIsNone(renaming(one, other))
                self.assertIsNone(renaming(other, one))

    def test_all_small_stretches(self):
        stretches = small_stretches()
        chance = random.Random(10)
        for one in chance.sample(stretches, 60):
            for other in stretches:
                told = renaming(one, other)
                self.assertEqual(told is not None, are_twins(one, other), (one, other))
                if told is not None:
                    self.assertEqual(told, plain_renaming(one, other))


class BarredTest(unittest.TestCase):
    def assert_barred(self, one, other, told, back=None):
        """Held both ways: but for earlier all is told of the second and the first, too."""
        self.assertEqual(barred(one, other), told)
        self.assertEqual(barred(other, one), back or told)

    def test_none_of_twins(self):
        for one, other in ((ONE, OTHER), (ONE, ONE), ([], []), ([[]], [[]]), ([["a", "b"]], [["b", "a"]])):
            self.assertIsNone(barred(one, other))

    def test_end_at_a_row(self):
        self.assert_barred([["a", "b"]], [["a"]], (0, 1, "end", None))
        self.assert_barred([["a"]], [[]], (0, 0, "end", None))
        self.assert_barred([["a"], ["if", "b"], []], [["a"], ["if"], ["x"]], (1, 1, "end", None))
        self.assert_barred([["+"] * 30], [["+"] * 29], (0, 29, "end", None))

    def test_end_at_a_row_comes_ahead_of_all_in_later_rows(self):
        self.assert_barred([["a", "b"], ["if"]], [["a"], ["in"], []], (0, 1, "end", None))

    def test_end_behind_the_last_row(self):
        self.assert_barred([], [[]], (0, 0, "end", None))
        self.assert_barred([], [["a"], ["b"]], (0, 0, "end", None))
        self.assert_barred(ONE, ONE + [[]], (3, 0, "end", None))
        self.assert_barred(ONE, OTHER + ONE, (3, 0, "end", None))
        self.assert_barred([["a"]] * 60, [["b"]] * 59, (59, 0, "end", None))

    def test_unlike(self):
        for one, other in [("a", "if"), ("a", "7"), ("a", "+"), ("if", "in"), ("if", "7"), ("7", "8"), ("7", "07"),
                           ("7", "+"), ("+", "-"), ("use", "use_"), ("while", "While")]:
            self.assert_barred([["x"], ["x", one]], [["y"], ["y", other]], (1, 1, "unlike", None))

    def test_unlike_words_come_ahead_of_the_end_of_their_row(self):
        self.assert_barred([["a", "1", "b"]], [["a", "2"]], (0, 1, "unlike", None))
        self.assert_barred([["a", "1", "b"]], [["a"]], (0, 1, "end", None))

    def test_led_by_a_name_of_the_one_or_the_other(self):
        self.assert_barred([["a", "+", "a"]], [["a", "+", "b"]], (0, 2, "led", (0, 0)))
        self.assert_barred([["x", "a"], ["b", "a"]], [["y", "c"], ["d", "e"]], (1, 1, "led", (0, 1)))

    def test_led_by_both_has_the_first_place(self):
        self.assert_barred(stretch_of("p", "a b", "a"), stretch_of("q", "c d", "d"), (2, 0, "led", (1, 0)))
        self.assert_barred(stretch_of("p", "b a", "a"), stretch_of("q", "d c", "d"), (2, 0, "led", (1, 0)))

    def test_earlier_is_the_first_of_several_comings(self):
        self.assert_barred(stretch_of("z", "a a", "a", "a"), stretch_of("z", "b b", "b", "c"), (3, 0, "led", (1, 0)))

    def test_earlier_has_free_names_in_both(self):
        # What stands under kept names, numbers and signs leads nowhere.
        self.assertIsNone(barred(stretch_of("if a", "7 + b"), stretch_of("if b", "7 + a")))

    def test_the_first_wrong_place_is_told(self):
        self.assert_barred([["a", "a", "1"]], [["a", "b", "2"]], (0, 1, "led", (0, 0)))
        self.assert_barred([["a", "1", "a"]], [["a", "2", "b"]], (0, 1, "unlike", None))
        self.assert_barred([["a"], ["a"], ["1"]], [["a"], ["b"]], (1, 0, "led", (0, 0)))

    def test_longest_stretches_wrong_at_the_last_place(self):
        one = [[f"n{30 * row + word}" for word in range(30)] for row in range(60)]
        other = [[f"m{30 * row + word}" for word in range(30)] for row in range(60)]
        self.assertIsNone(barred(one, other))
        self.assertEqual(renaming(one, other), [(f"n{at}", f"m{at}") for at in range(1800)])
        other[59][29] = "m31"
        self.assert_barred(one, other, (59, 29, "led", (1, 1)))
        other[59][29] = "if"
        self.assert_barred(one, other, (59, 29, "unlike", None))

    def test_held_against_a_look_at_each_place(self):
        chance = random.Random(12)
        reasons = {}
        for turn in range(4000):
            one, other = any_two(chance)
            told = barred(one, other)
            self.assertEqual(told, plain_barred(one, other), (one, other))
            self.assertEqual(told is None, renaming(one, other) is not None)
            reasons[told and told[2]] = True
        self.assertEqual(set(reasons), {None, "end", "unlike", "led"})

    def test_all_small_stretches(self):
        stretches = small_stretches()
        for one in random.Random(13).sample(stretches, 60):
            for other in stretches:
                self.assertEqual(barred(one, other), plain_barred(one, other), (one, other))


class MarkTest(unittest.TestCase):
    def test_numbers_for_free_names(self):
        self.assertEqual(mark(ONE), [["for", 0, "in", 1, "do"], [2, "=", 2, "+", 0], ["end"]])
        self.assertEqual(mark([["b", "a"], [], ["c", "b", "12"]]), [[0, 1], [], [2, 0, "12"]])
        self.assertEqual(mark([["12", "0", "+"]]), [["12", "0", "+"]])

    def test_stretches_without_rows_and_rows_without_words(self):
        self.assertEqual(mark([]), [])
        self.assertEqual(mark([[], []]), [[], []])

    def test_kinds(self):
        self.assertEqual([[type(item) for item in row] for row in mark([["a", "if", "7", "a"], []])],
                         [[int, str, str, int], []])

    def test_longest_stretch(self):
        stretch = [[f"n{30 * row + word}" for word in range(30)] for row in range(60)]
        self.assertEqual(mark(stretch), [[30 * row + word for word in range(30)] for row in range(60)])

    def test_numbers_and_marks_are_unlike(self):
        self.assertNotEqual(mark([["0"]]), mark([["a"]]))

    def test_held_against_a_look_at_each_name(self):
        chance = random.Random(15)
        for turn in range(1000):
            one, other = any_two(chance)
            self.assertEqual(mark(one), plain_mark(one))
            self.assertEqual(mark(one) == mark(other), are_twins(one, other))
            self.assertEqual(mark(one) == mark(other), barred(one, other) is None)

    def test_equal_just_of_twins_among_all_small_stretches(self):
        stretches = small_stretches()
        for one in random.Random(16).sample(stretches, 60):
            for other in stretches:
                self.assertEqual(mark(one) == mark(other), are_twins(one, other), (one, other))


class OverAllTest(unittest.TestCase):
    """Promise 16."""

    def any_three_twins(self, chance):
        names = ["a", "b", "c", "d"]
        one = any_rows(chance, names + ["if", "7"], chance.randrange(1, 6), 4)
        return one, any_copy(chance, one, names), any_copy(chance, one, names)

    def test_each_stretch_is_its_own_twin(self):
        chance = random.Random(17)
        for turn in range(200):
            one = self.any_three_twins(chance)[0]
            self.assertEqual([old == new for old, new in renaming(one, one)], [True] * len(renaming(one, one)))

    def test_back_is_the_renaming_turned(self):
        chance = random.Random(18)
        for turn in range(300):
            one, other, third = self.any_three_twins(chance)
            self.assertEqual(renaming(other, one), turned(renaming(one, other)))
            self.assertEqual(renamed(one, renaming(one, other)), other)

    def test_twins_of_twins(self):
        chance = random.Random(19)
        for turn in range(300):
            one, other, third = self.any_three_twins(chance)
            self.assertEqual(renaming(one, third), followed(renaming(one, other), renaming(other, third)))

    def test_rows_of_twins_are_twins_by_pairs_of_the_same_renaming(self):
        chance = random.Random(20)
        for turn in range(100):
            one, other, third = self.any_three_twins(chance)
            for first in range(len(one)):
                for last in range(first, len(one) + 1):
                    told = renaming(one[first:last], other[first:last])
                    self.assertLessEqual(set(told), set(renaming(one, other)))


class OwnTest(unittest.TestCase):
    """Promise 1: what is handed in stays, and what is told is the asker's own."""

    def test_what_is_handed_in_stays(self):
        for call, *things in [(renaming, ONE, OTHER), (renaming, ONE, ONE[1:]), (barred, ONE, OTHER), (mark, ONE),
                              (barred, ONE, ONE[1:])]:
            before = copy.deepcopy(things)
            call(*things)
            self.assertEqual(things, before)

    def test_what_is_told_stays_when_what_was_handed_in_is_changed(self):
        one, other = [["a"], []], [["b"], []]
        names, marks = renaming(one, other), mark(one)
        one[0][0] = "z"
        one[1].append("y")
        other.append(["x"])
        self.assertEqual((names, marks), ([("a", "b")], [[0], []]))

    def test_changing_what_is_told_changes_nothing(self):
        one = [["a", "if"], []]
        renaming(one, one).append(("p", "q"))
        told = mark(one)
        told[0].append("x")
        told[1].append("x")
        told.append([])
        self.assertEqual(one, [["a", "if"], []])
        self.assertEqual(mark(one), [[0, "if"], []])
        self.assertEqual(renaming(one, one), [("a", "a")])

    def test_kinds(self):
        self.assertIs(type(renaming(ONE, OTHER)), list)
        self.assertEqual({type(pair) for pair in renaming(ONE, OTHER)}, {tuple})
        told = barred([["a", "a"]], [["a", "b"]])
        self.assertEqual((type(told), type(told[3])), (tuple, tuple))

    def test_arguments_by_name(self):
        self.assertEqual(renaming(other=[["b"]], one=[["a"]]), [("a", "b")])
        self.assertEqual(barred(other=[["b"], []], one=[["a"]]), (1, 0, "end", None))
        self.assertEqual(mark(stretch=[["a"]]), [[0]])


if __name__ == "__main__":
    unittest.main()
