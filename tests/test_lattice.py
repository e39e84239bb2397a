"""Promises 29 to 31, 25 and 26 as far as two forms go, and 1 and 6 with them."""

import copy
import itertools
import random
import unittest

from kinrows.errors import BadForm, Shape
from kinrows.forms import fillings, form_of, holes_of
from kinrows.lattice import joined, led, met
from tests.looks import any_form, at, is_hole, numbered, places, plain_holes, put_under, same_shape
from tests.things import no_forms

SHAPE = [2, 0, 1]


def told(call, *things):
    """What a call tells, or the class of its refusal, a Shape with its row."""
    try:
        return call(*things)
    except BadForm:
        return BadForm
    except Shape as refusal:
        return (Shape, refusal.row)


def rows_of(items, shape):
    """A list of items laid out to rows of these lengths."""
    items = list(items)
    return [[items.pop(0) for item in range(many)] for many in shape]


def small_forms():
    """All forms of the one shape of three places, of two words and holes."""
    found = []
    for items in itertools.product(["a", "b", 0, 1, 2], repeat=3):
        form = rows_of(items, SHAPE)
        if numbered(form) == form:
            found.append(form)
    return found


def plain_led(one, other):
    """[29] by a look at all lists of items."""
    items = sorted({item for row in other for item in row}, key=str)
    lists = itertools.product(items, repeat=len(plain_holes(one)))
    found = [list(under) for under in lists if put_under(one, under) == other]
    assert len(found) < 2
    return found[0] if found else None


def up_to(form, many):
    """The first many items of a form as a form of one row."""
    return [[item for row in form for item in row][:many]]


def can_meet(one, other, words):
    """Whether some stretch of these words fits both, by a look at all."""
    shape = [len(row) for row in one]
    for filling in itertools.product(words, repeat=sum(shape)):
        stretch = rows_of(filling, shape)
        if fillings(one, stretch) is not None and fillings(other, stretch) is not None:
            return True
    return False


def plain_clash(one, other, words):
    """[31]: the first place up to which no stretch fits both, or None."""
    for many, place in enumerate(places(one), start=1):
        if not can_meet(up_to(one, many), up_to(other, many), words):
            return place
    return None


class LedTest(unittest.TestCase):
    def test_items_for_the_holes(self):
        self.assertEqual(led([["use", 0, 1], [0]], [["use", "a", 0], ["a"]]), ["a", 0])
        self.assertEqual(led([[0, 1]], [[0, 0]]), [0, 0])
        self.assertEqual(led([[0, 1, 2]], [["if", 0, "if"]]), ["if", 0, "if"])
        self.assertEqual(led([[0, 1]], [["0", 0]]), ["0", 0])

    def test_a_form_is_led_to_itself(self):
        for form in ([], [[]], [["a"]], [[0, 1, 0]], [["a"], [0]]):
            self.assertEqual(led(form, form), plain_holes(form))

    def test_none(self):
        for one, other in [
            ([["a"]], [["b"]]), ([["a"]], [[0]]), ([[0, 0]], [[0, 1]]), ([[0, 0]], [["a", 0]]),
            ([[0, 0]], [["a", "b"]]), ([[0, "a"]], [["a", 0]]), ([["0"]], [[0]]), ([[0, 1, 0]], [[0, 0, 1]]),
        ]:
            with self.subTest(one=one, other=other):
                self.assertIsNone(led(one, other))

    def test_none_where_they_are_not_of_one_shape(self):
        for one, other in [([], [[]]), ([[]], []), ([[0]], [[]]), ([[]], [[0]]), ([[0]], [[0, 0]]), ([[0], []], [[0]]),
                           ([[0], [1]], [["a", "b"]])]:
            self.assertIsNone(led(one, other))

    def test_to_a_stretch_as_by_fillings(self):
        chance = random.Random(29)
        for turn in range(300):
            form = any_form(chance, [2, 1], ["a"], 2)
            stretch = any_form(chance, [2, 1], ["a", "b"], 0)
            self.assertEqual(led(form, stretch), fillings(form, stretch))

    def test_all_small_forms(self):
        forms = small_forms()
        self.assertEqual(len(forms), 37)
        for one in forms:
            for other in forms:
                self.assertEqual(led(one, other), plain_led(one, other), (one, other))

    def test_largest_forms(self):
        wide = [list(range(30 * row, 30 * row + 30)) for row in range(60)]
        narrow = [[0] * 30 for row in range(60)]
        self.assertEqual(led(wide, narrow), [0] * 1800)
        self.assertEqual(led(wide, wide), list(range(1800)))
        self.assertIsNone(led(narrow, wide))


class JoinedTest(unittest.TestCase):
    def test_words_and_holes(self):
        self.assertEqual(joined([["a", "b", "+"]], [["a", "c", "+"]]), [["a", 0, "+"]])
        self.assertEqual(joined([["a", "a", "b"]], [["b", "b", "b"]]), [[0, 0, "b"]])
        self.assertEqual(joined([["a", "a", "b"]], [["b", "b", "c"]]), [[0, 0, 1]])

    def test_holes_of_both(self):
        self.assertEqual(joined([[0, 0]], [[0, 0]]), [[0, 0]])
        self.assertEqual(joined([[0, 1]], [[0, 0]]), [[0, 1]])
        self.assertEqual(joined([[0, 1, 0, 1]], [[0, 0, 0, "a"]]), [[0, 1, 0, 2]])
        self.assertEqual(joined([["a", 0]], [[0, "a"]]), [[0, 1]])
        self.assertEqual(joined([[0, "a", 0]], [["a", 0, "a"]]), [[0, 1, 0]])
        self.assertEqual(joined([[0]], [["0"]]), [[0]])

    def test_without_rows_and_items(self):
        self.assertEqual(joined([], []), [])
        self.assertEqual(joined([[], []], [[], []]), [[], []])

    def test_of_two_stretches_as_by_form_of(self):
        chance = random.Random(30)
        for turn in range(200):
            one, other = any_form(chance, [3, 2], ["a", "b"], 0), any_form(chance, [3, 2], ["a", "b"], 0)
            self.assertEqual(joined(one, other), form_of([one, other]))

    def test_narrowest_of_all_small_forms_as_wide_as_both(self):
        forms = small_forms()
        wide = {str(form): {str(one) for one in forms if plain_led(one, form) is not None} for form in forms}
        for one in forms:
            for other in forms:
                form = joined(one, other)
                # What is led to both is just what is led to the joined one, itself among it.
                self.assertIn(form, forms)
                self.assertEqual(wide[str(form)], wide[str(one)] & wide[str(other)])

    def test_held_against_a_look_at_each_two_places(self):
        chance = random.Random(31)
        for turn in range(400):
            one, other = any_form(chance, [3, 0, 2], ["a", "b"], 2), any_form(chance, [3, 0, 2], ["a", "b"], 3)
            form = joined(one, other)
            self.assertEqual(numbered(form), form)
            for place in places(one):
                same = at(one, place) == at(other, place) and not is_hole(at(one, place))
                self.assertEqual(is_hole(at(form, place)), not same)
                self.assertTrue(not same or at(form, place) == at(one, place))
                for second in places(one):
                    if is_hole(at(form, place)) and is_hole(at(form, second)):
                        both = at(one, place) == at(one, second) and at(other, place) == at(other, second)
                        self.assertEqual(at(form, place) == at(form, second), both)


class MetTest(unittest.TestCase):
    def test_words_under_holes(self):
        self.assertEqual(met([[0, "b"]], [["a", 0]]), (True, [["a", "b"]]))
        self.assertEqual(met([[0, 0]], [["a", 0]]), (True, [["a", "a"]]))
        self.assertEqual(met([[0], [1]], [[0], [0]]), (True, [[0], [0]]))
        self.assertEqual(met([["a", "b"]], [["a", "b"]]), (True, [["a", "b"]]))

    def test_holes_of_the_two_are_unlike_things(self):
        self.assertEqual(met([[0, "a", 1]], [["b", 0, 1]]), (True, [["b", "a", 0]]))
        self.assertEqual(met([[0, 1]], [["a", 0]]), (True, [["a", 0]]))
        self.assertEqual(met([[0, 1]], [["0", 0]]), (True, [["0", 0]]))

    def test_bound_over_several_places(self):
        self.assertEqual(met([[0, 0, 1, 1]], [[0, 1, 1, 2]]), (True, [[0, 0, 0, 0]]))
        self.assertEqual(met([[0, 0, 1, 1, 2]], [[0, 1, 1, "a", 2]]), (True, [["a", "a", "a", "a", 0]]))
        self.assertEqual(met([[0, 1, 2, 0, 1]], [["a", 0, 0, 1, "b"]]), (True, [["a", "b", "b", "a", "b"]]))

    def test_holes_in_order_of_their_places(self):
        self.assertEqual(met([["a", 0, 1]], [[0, 1, 2]]), (True, [["a", 0, 1]]))
        self.assertEqual(met([[0, 1, 2]], [[0, 1, 0]]), (True, [[0, 1, 0]]))

    def test_without_rows_and_items(self):
        self.assertEqual(met([], []), (True, []))
        self.assertEqual(met([[], []], [[], []]), (True, [[], []]))

    def test_two_unlike_words(self):
        self.assertEqual(met([["a"]], [["b"]]), (False, (0, 0)))
        self.assertEqual(met([["a"], [], [0, "if"]], [[0], [], [1, "in"]]), (False, (2, 1)))
        self.assertEqual(met([[0, 0]], [["a", "b"]]), (False, (0, 1)))
        self.assertEqual(met([["a", "b"]], [[0, 0]]), (False, (0, 1)))

    def test_the_first_place_that_binds_them(self):
        self.assertEqual(met([[0, 1], ["a", "b"], [0]], [[0, 1], [0, 1], [1]]), (False, (2, 0)))
        self.assertEqual(met([[0, 1, 0, 1], ["c"]], [["a", "b", 0, 0], ["d"]]), (False, (0, 3)))
        self.assertEqual(met([[0, 0, 0]], [["a", "b", "c"]]), (False, (0, 1)))
        self.assertEqual(met([["a", "b"], ["c"]], [[0, 1], [0]]), (False, (1, 0)))

    def test_words_bound_through_words(self):
        # The word itself is one thing, wherever it stands.
        self.assertEqual(met([[0, "a", 1]], [["a", 0, 0]]), (True, [["a", "a", "a"]]))
        self.assertEqual(met([[0, 1, 0]], [["a", "a", 0]]), (True, [["a", "a", "a"]]))

    def test_widest_of_all_small_forms_to_which_both_are_led(self):
        forms = small_forms()
        narrow = {str(form): {str(one) for one in forms if plain_led(form, one) is not None} for form in forms}
        good = 0
        for one in forms:
            for other in forms:
                meets, form = met(one, other)
                both = narrow[str(one)] & narrow[str(other)]
                self.assertEqual(meets, bool(both))
                if meets:
                    self.assertIn(form, forms)
                    self.assertEqual(narrow[str(form)], both)
                    good += 1
                else:
                    self.assertEqual(form, plain_clash(one, other, "ab"))
        self.assertGreater(good, 100)

    def test_first_places_held_against_all_stretches(self):
        chance = random.Random(32)
        clashes = 0
        for turn in range(150):
            one, other = any_form(chance, [2, 3], ["a", "b", "c"], 3), any_form(chance, [2, 3], ["a", "b"], 3)
            place = plain_clash(one, other, "abc")
            told_one = met(one, other)
            self.assertEqual(told_one[0], place is None)
            if place is None:
                self.assertIsNotNone(led(one, told_one[1]))
                self.assertIsNotNone(led(other, told_one[1]))
            else:
                self.assertEqual(told_one[1], place)
                clashes += 1
        self.assertGreater(clashes, 30)

    def test_largest_forms(self):
        holes = [list(range(30 * row, 30 * row + 30)) for row in range(60)]
        one_hole = [[0] * 30 for row in range(60)]
        names = [[f"n{hole}" for hole in row] for row in holes]
        self.assertEqual(met(holes, names), (True, names))
        self.assertEqual(met(one_hole, holes), (True, one_hole))
        self.assertEqual(met(one_hole, names), (False, (0, 1)))
        # Each place binds the last hole to the next one, so all hang in one chain up to the last place.
        one = rows_of([hole // 2 for hole in range(1800)], [30] * 60)
        other = rows_of(["a"] + [(hole + 1) // 2 - 1 for hole in range(1, 1800)], [30] * 60)
        self.assertEqual(met(one, other), (True, [["a"] * 30] * 60))
        one[59][29], other[59][29] = "b", other[59][28]
        self.assertEqual(met(one, other), (False, (59, 29)))


class RefusedTest(unittest.TestCase):
    def test_bad_form_of_either(self):
        for thing in no_forms():
            with self.subTest(thing):
                for call in (led, joined, met):
                    self.assertIs(told(call, thing, [["a"]]), BadForm)
                    self.assertIs(told(call, [["a"]], thing), BadForm)
                    self.assertIs(told(call, thing, thing), BadForm)

    def test_bad_form_comes_ahead_of_shape(self):
        for thing in (None, [[1]], [["a"], [True]], [["a", "a b"]], [[]] * 61):
            for form in ([], [[]], [["a"], [], []], [[0, 1, 2]]):
                for call in (led, joined, met):
                    self.assertIs(told(call, thing, form), BadForm)
                    self.assertIs(told(call, form, thing), BadForm)

    def test_shape(self):
        for one, other, row in [
            ([], [[]], 0), ([[]], [["a"]], 0), ([["a"]], [["a"], []], 1), ([["a"], [0]], [["b"], [0, 1]], 1),
            ([["a"], ["b"], ["c"]], [["a"], ["b", "c"]], 1), ([[0]] * 60, [[0]] * 59, 59),
            ([["a"] * 30], [["a"] * 29], 0),
        ]:
            for call in (joined, met):
                self.assertEqual(told(call, one, other), (Shape, row))
                self.assertEqual(told(call, other, one), (Shape, row))

    def test_shape_comes_ahead_of_unlike_words(self):
        self.assertEqual(told(met, [["a"], []], [["b"], ["c"]]), (Shape, 1))

    def test_shape_held_against_a_look(self):
        chance = random.Random(33)
        for turn in range(300):
            shapes = [[chance.randrange(3) for row in range(chance.randrange(4))] for form in range(2)]
            one, other = [any_form(chance, shape, ["a"], 2) for shape in shapes]
            if same_shape(one, other):
                self.assertTrue(same_shape(joined(one, other), one))
            else:
                pairs = list(itertools.zip_longest(*shapes))
                row = [mine == yours for mine, yours in pairs].index(False)
                self.assertEqual(told(joined, one, other), (Shape, row))
                self.assertEqual(told(met, one, other), (Shape, row))


class OwnTest(unittest.TestCase):
    """Promise 1: what is handed in stays, and what is told is the asker's own."""

    def test_what_is_handed_in_stays(self):
        forms = [[[0, "a"], []], [["b", 0], []], [["b", "c"], []], [[0]], [[1]], None]
        for one, other in itertools.product(forms, repeat=2):
            for call in (led, joined, met):
                things = copy.deepcopy([one, other])
                told(call, *things)
                self.assertEqual(things, [one, other])

    def test_changing_what_is_told_or_was_handed_in(self):
        one, other = [["a"], []], [["a"], []]
        for result in (joined(one, other), met(one, other)[1], joined(one, one), met(one, one)[1]):
            for row in result:
                row.append("x")
            result.append([])
        led(one, other).append("x")
        self.assertEqual((one, other, led(one, other)), ([["a"], []], [["a"], []], []))
        form, result = joined(one, other), met(one, other)
        one[0][0] = other[0][0] = "z"
        self.assertEqual((form, result), ([["a"], []], (True, [["a"], []])))

    def test_kinds(self):
        good, bad = met([["a"]], [[0]]), met([["a"]], [["b"]])
        self.assertEqual((type(good), type(good[0]), type(good[1])), (tuple, bool, list))
        self.assertEqual((type(bad), type(bad[0]), type(bad[1])), (tuple, bool, tuple))
        self.assertIs(type(led([[0]], [["a"]])), list)
        self.assertEqual(holes_of(joined([["a", "b"]], [["c", "d"]])), 2)

    def test_arguments_by_name(self):
        self.assertEqual(led(other=[["a"]], one=[[0]]), ["a"])
        self.assertEqual(joined(other=[["a"]], one=[["b"]]), [[0]])
        self.assertEqual(met(other=[["a"]], one=[[0]]), (True, [["a"]]))


if __name__ == "__main__":
    unittest.main()
