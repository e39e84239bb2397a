"""Promises 25 to 28, and 1 and 6 as far as forms go."""

import copy
import random
import unittest

from kinrows.errors import BadFilling, BadForm, NoRows, Shape
from kinrows.forms import filled, fillings, form_of, holes_of
from tests.looks import any_form, any_rows, at, is_hole, places, plain_holes, put_under, same_shape, stretch_of
from tests.things import no_forms, odd_lists, odd_things

FORM = [["use", 0, 1], [], [0, "+", "7"]]
GOOD_FORMS = [
    [], [[]], [[], []], [["a"]], [[0]], [[0, 0]], [[0, 1, 0, 2, 1]], FORM, [[0], [], [1], ["if", 0, 2, 1]],
    [["a"]] * 60, [[]] * 60, [["a"] * 30], [[0] * 30], [list(range(30))],
    [list(range(30 * row, 30 * row + 30)) for row in range(60)],
]


def told(call, *things):
    """What a call tells, or the class of its refusal, a Shape with its row."""
    try:
        return call(*things)
    except (BadFilling, BadForm, NoRows) as refusal:
        return refusal.__class__
    except Shape as refusal:
        return (Shape, refusal.row)


def any_like_stretches(chance):
    """Stretches of one shape with words in common."""
    shape = [chance.randrange(4) for row in range(chance.randrange(4))]
    words = chance.choice([["a", "b"], ["a", "if", "7"], ["a", "b", "c", "if", "7", "+"]])
    return [[[chance.choice(words) for word in range(many)] for many in shape]
            for stretch in range(chance.randrange(1, 5))]


def first_unlike_row(stretches):
    """[25]: the field row of Shape, or None, row by row."""
    for row in range(max(len(stretch) for stretch in stretches)):
        if len({len(stretch[row]) if row < len(stretch) else "none" for stretch in stretches}) > 1:
            return row
    return None


class FormOfTest(unittest.TestCase):
    def test_words_that_all_have_and_holes(self):
        one = stretch_of("for k in rows do", "total = total + k", "end")
        other = stretch_of("for x in rows do", "sum = sum + 1", "end")
        self.assertEqual(form_of([one, other]),
                         [["for", 0, "in", "rows", "do"], [1, "=", 1, "+", 2], ["end"]])

    def test_the_same_hole_just_where_each_has_the_same_word_at_both(self):
        self.assertEqual(form_of([[["a", "a", "b"]], [["c", "c", "c"]]]), [[0, 0, 1]])
        self.assertEqual(form_of([[["a", "b", "a"]], [["b", "a", "b"]]]), [[0, 1, 0]])
        self.assertEqual(form_of([[["a"], ["a"]], [["b"], ["b"]], [["c"], ["d"]]]), [[0], [1]])

    def test_words_of_any_kind_under_holes(self):
        self.assertEqual(form_of([[["a", "if", "7"]], [["7", "+", "7"]]]), [[0, 1, "7"]])

    def test_one_stretch_alone_is_its_own_form(self):
        for stretch in ([], [[]], [["a", "a"], [], ["if", "7"]]):
            self.assertEqual(form_of([stretch]), stretch)

    def test_like_stretches(self):
        self.assertEqual(form_of([[["a", "b"]]] * 5), [["a", "b"]])
        self.assertEqual(form_of([[]] * 3), [])
        self.assertEqual(form_of([[[], []]] * 3), [[], []])

    def test_a_hundred_stretches(self):
        stretches = [[["use", f"n{at}", "x"], [f"n{at}", str(at // 50)]] for at in range(100)]
        self.assertEqual(form_of(stretches), [["use", 0, "x"], [0, 1]])
        stretches[99][0][2] = "y"
        self.assertEqual(form_of(stretches), [["use", 0, 1], [0, 2]])

    def test_longest_stretches(self):
        one = [[f"n{30 * row + word}" for word in range(30)] for row in range(60)]
        other = [[f"m{30 * row + word}" for word in range(30)] for row in range(60)]
        form = form_of([one, other])
        self.assertEqual(form, [[30 * row + word for word in range(30)] for row in range(60)])
        self.assertEqual(holes_of(form), 1800)
        self.assertEqual(filled(form, fillings(form, one)), one)

    def test_none_at_all(self):
        self.assertIs(told(form_of, []), NoRows)

    def test_shape_by_the_number_of_rows(self):
        self.assertEqual(told(form_of, [[], [[]]]), (Shape, 0))
        self.assertEqual(told(form_of, [[["a"], []], [["a"]]]), (Shape, 1))
        self.assertEqual(told(form_of, [[["a"]] * 60, [["a"]] * 60, [["a"]] * 59]), (Shape, 59))

    def test_shape_by_the_number_of_words(self):
        self.assertEqual(told(form_of, [[["a"]], [[]]]), (Shape, 0))
        self.assertEqual(told(form_of, [[["a"], ["b"]], [["c"], ["d", "e"]]]), (Shape, 1))
        self.assertEqual(told(form_of, [[["a"], []], [["a"], []], [["a"], ["b"]]]), (Shape, 1))

    def test_shape_has_the_first_row_of_several(self):
        self.assertEqual(told(form_of, [[["a"], ["b"], ["c"]], [["a"], ["b", "b"]]]), (Shape, 1))
        self.assertEqual(told(form_of, [[["a"], ["b"], ["c"]], [["a"], ["b"], []], [["a"]]]), (Shape, 1))
        self.assertEqual(told(form_of, [[["a"], ["b"]], [["a"]], [[], ["b"]]]), (Shape, 0))

    def test_shape_held_against_a_look_row_by_row(self):
        chance = random.Random(25)
        for turn in range(500):
            stretches = [any_rows(chance, ["a", "b"], chance.randrange(4), 1) for at in range(chance.randrange(1, 4))]
            row = first_unlike_row(stretches)
            if row is None:
                self.assertTrue(same_shape(stretches[0], form_of(stretches)))
            else:
                self.assertEqual(told(form_of, stretches), (Shape, row))

    def test_held_against_a_look_at_each_two_places(self):
        chance = random.Random(27)
        for turn in range(800):
            stretches = any_like_stretches(chance)
            form = form_of(stretches)
            under = {place: [at(stretch, place) for stretch in stretches] for place in places(stretches[0])}
            self.assertEqual([len(row) for row in form], [len(row) for row in stretches[0]])
            for place in under:
                if len(set(under[place])) == 1:
                    self.assertEqual(at(form, place), under[place][0])
                else:
                    self.assertTrue(is_hole(at(form, place)))
                for other in under:
                    if is_hole(at(form, place)) and is_hole(at(form, other)):
                        self.assertEqual(at(form, place) == at(form, other), under[place] == under[other])
            # Its holes are in order, or it would be refused here.
            self.assertEqual(holes_of(form), len(plain_holes(form)))

    def test_filled_again_to_each_of_the_stretches(self):
        chance = random.Random(28)
        for turn in range(300):
            stretches = any_like_stretches(chance)
            form = form_of(stretches)
            for stretch in stretches:
                self.assertEqual(filled(form, fillings(form, stretch)), stretch)


class HolesTest(unittest.TestCase):
    def test_how_many(self):
        for form, many in [([], 0), ([[]], 0), ([["a", "7"]], 0), ([[0]], 1), ([[0, 0], [0]], 1), (FORM, 2),
                           ([[0, 1, 0, 2, 1]], 3), ([["0"]], 0), (GOOD_FORMS[-1], 1800)]:
            self.assertEqual(holes_of(form), many)

    def test_good_forms(self):
        for form in GOOD_FORMS:
            self.assertEqual(holes_of(form), len(plain_holes(form)))

    def test_longest_words_as_items(self):
        self.assertEqual(holes_of([["a" * 20, "7" * 20, "+", "if", 0]]), 1)


class BadFormTest(unittest.TestCase):
    def test_whatever_is_no_form(self):
        for thing in no_forms():
            with self.subTest(thing):
                self.assertIs(told(holes_of, thing), BadForm)
                self.assertIs(told(filled, thing, []), BadForm)
                self.assertIs(told(fillings, thing, []), BadForm)

    def test_true_and_false_are_no_holes(self):
        for form in ([[False]], [[True]], [[0, True]], [[0, False]], [["a", False]]):
            self.assertIs(told(holes_of, form), BadForm)

    def test_61_rows_and_31_items(self):
        self.assertEqual(holes_of([[0]] * 60), 1)
        self.assertIs(told(holes_of, [[0]] * 61), BadForm)
        self.assertEqual(holes_of([[0] * 30]), 1)
        self.assertIs(told(holes_of, [[0] * 31]), BadForm)
        self.assertIs(told(holes_of, [[]] * 59 + [["a"] * 31]), BadForm)

    def test_comes_ahead_of_bad_filling_and_of_stretches_that_do_not_fit(self):
        for thing in (None, [[1]], [["a b"]], [[True]], [[]] * 61):
            for words in (None, [], ["a"], ["a b"], ["a", "b"]):
                self.assertIs(told(filled, thing, words), BadForm)
            for stretch in ([], [[]], [["z"]], [["z"], ["y"]]):
                self.assertIs(told(fillings, thing, stretch), BadForm)


class FilledTest(unittest.TestCase):
    def test_words_in_the_place_of_holes(self):
        self.assertEqual(filled(FORM, ["f", "12"]), [["use", "f", "12"], [], ["f", "+", "7"]])
        self.assertEqual(filled([[0, 1, 0]], ["if", "if"]), [["if", "if", "if"]])
        self.assertEqual(filled([["a"], []], []), [["a"], []])
        self.assertEqual(filled([], []), [])

    def test_not_just_so_many_words(self):
        for form, words in [(FORM, []), (FORM, ["a"]), (FORM, ["a", "b", "c"]), ([], ["a"]), ([["a"]], ["a"]),
                            ([[0, 0]], ["a", "a"]), ([[0, 1]], ["a"])]:
            self.assertIs(told(filled, form, words), BadFilling)

    def test_no_list(self):
        for words in odd_things() + ["", "a", "ab", ("a", "b")]:
            with self.subTest(words):
                self.assertIs(told(filled, FORM, words), BadFilling)
                self.assertIs(told(filled, [], words), BadFilling)
                self.assertIs(told(filled, [[0]], words), BadFilling)

    def test_no_words(self):
        for thing in odd_things() + odd_lists() + ["", " ", "a b", "1a", "==", "a" * 21, "7" * 21, "a\n", "\t"]:
            with self.subTest(thing):
                self.assertIs(told(filled, [[0]], [thing]), BadFilling)
                self.assertIs(told(filled, FORM, ["a", thing]), BadFilling)
                self.assertIs(told(filled, FORM, [thing, "a"]), BadFilling)

    def test_each_kind_of_word_under_a_hole(self):
        for word in ("a", "_", "a" * 20, "7", "7" * 20, "+", "~", "use", "and"):
            self.assertEqual(filled([[0, "x", 0]], [word]), [[word, "x", word]])


class FillingsTest(unittest.TestCase):
    def test_words_under_the_holes(self):
        self.assertEqual(fillings(FORM, [["use", "f", "12"], [], ["f", "+", "7"]]), ["f", "12"])
        self.assertEqual(fillings([[0, 1, 2]], [["a", "a", "if"]]), ["a", "a", "if"])

    def test_forms_without_holes(self):
        self.assertEqual(fillings([], []), [])
        self.assertEqual(fillings([[]], [[]]), [])
        self.assertEqual(fillings([["a", "7"]], [["a", "7"]]), [])

    def test_stretches_that_do_not_fit(self):
        for form, stretch in [
            ([["a"]], [["b"]]), ([[0, 0]], [["a", "b"]]), ([[0], [0]], [["a"], ["b"]]), ([[0, "a"]], [["a", "b"]]),
            ([], [[]]), ([[]], []), ([[0]], [[]]), ([[0]], [["a", "a"]]), ([[0], []], [["a"]]), ([[0]], [["a"], []]),
            ([["a", 0]], [["A", "b"]]), ([["0"]], [["a"]]), ([["7"]], [["07"]]), (FORM, [["use", "f", "12"], []]),
        ]:
            with self.subTest(form=form, stretch=stretch):
                self.assertIsNone(fillings(form, stretch))

    def test_held_against_all_words_of_the_stretch(self):
        chance = random.Random(29)
        fits = 0
        for turn in range(1500):
            shape = [chance.randrange(4) for row in range(chance.randrange(3))]
            form = any_form(chance, shape, ["a", "b"], 3)
            stretch = [[chance.choice("ab") for item in range(many)] for many in shape]
            if chance.random() < 0.4:
                stretch = put_under(form, [chance.choice(["a", "b", "if", "7"]) for hole in plain_holes(form)])
            words = fillings(form, stretch)
            under = [{at(stretch, place) for place in places(form) if at(form, place) == hole}
                     for hole in plain_holes(form)]
            fit = all(len(found) == 1 for found in under)
            fit = fit and put_under(form, [min(found) for found in under]) == stretch
            self.assertEqual(words, [min(found) for found in under] if fit else None)
            if fit:
                self.assertEqual(filled(form, words), stretch)
                fits += 1
        self.assertGreater(fits, 400)

    def test_filled_fits_by_the_same_words(self):
        chance = random.Random(30)
        for turn in range(300):
            form = any_form(chance, [2, 0, 3], ["a", "if"], 4)
            words = [chance.choice(["a", "b", "if", "7", "+"]) for hole in plain_holes(form)]
            self.assertEqual(fillings(form, filled(form, words)), words)


class OwnTest(unittest.TestCase):
    """Promise 1: what is handed in stays, and what is told is the asker's own."""

    def test_what_is_handed_in_stays(self):
        calls = [(form_of, [[["a"], []], [["b"], []]]), (form_of, [[["a"]], []]), (holes_of, FORM),
                 (filled, FORM, ["a"]), (filled, FORM, ["a", "b"]), (fillings, FORM, [["a"]]), (holes_of, [[1]]),
                 (fillings, FORM, [["use", "f", "12"], [], ["f", "+", "7"]])]
        for call, *things in calls:
            before = copy.deepcopy(things)
            told(call, *things)
            self.assertEqual(things, before)

    def test_changing_what_is_told_or_was_handed_in(self):
        stretch, words = [["a"], []], ["b"]
        for result in (form_of([stretch]), form_of([stretch, stretch]), filled(stretch, []), filled([[0], []], words)):
            for row in result:
                row.append("x")
            result.append([])
        fillings([[0]], [["a"]]).append("x")
        fillings([["a"]], [["a"]]).append("x")
        self.assertEqual((stretch, words), ([["a"], []], ["b"]))
        self.assertEqual(fillings([["a"]], [["a"]]), [])
        form, result = form_of([stretch]), filled([[0], []], words)
        stretch[0][0] = words[0] = "z"
        self.assertEqual((form, result), ([["a"], []], [["b"], []]))

    def test_rows_told_are_unlike_lists(self):
        row = ["a"]
        for result in (form_of([[row, row]]), filled([row, row], []), form_of([[row, row], [row, row]])):
            result[0].append("b")
            self.assertEqual(result, [["a", "b"], ["a"]])

    def test_arguments_by_name(self):
        self.assertEqual(form_of(stretches=[[["a"]], [["b"]]]), [[0]])
        self.assertEqual(holes_of(form=[[0]]), 1)
        self.assertEqual(filled(words=["a"], form=[[0]]), [["a"]])
        self.assertEqual(fillings(stretch=[["a"]], form=[[0]]), ["a"])


if __name__ == "__main__":
    unittest.main()
