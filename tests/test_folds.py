"""Calls put in the place of rows, and rows in the place of calls: promises 65 to 70."""

import copy
import itertools
import random
import unittest

from kinrows.errors import (
    BadCall, BadFilling, BadForm, BadName, KinError, NoFit, NoForm, NoPlace, NoRows, Overlap, Ring, TooMany, Wide)
from kinrows.folds import fold, unfold
from kinrows.forms import form_of
from kinrows.spots import apart, fitting
from kinrows.words import is_free
from tests.looks import any_form, any_rows, plain_holes, put_under, stretch_of
from tests.things import no_forms, odd_lists, odd_things

NO_NAMES = odd_things() + odd_lists() + ["", " ", "use", "if", "while", "1", "+", "a b", "a ", "a" * 21, "a\n"]
NO_SPOTS = [thing for thing in odd_things() if type(thing) is not int] + odd_lists() + ["", "0", -1, -10 ** 50]


def told(call, *things):
    """What is told, or the class of the refusal, with its field if it has one."""
    try:
        return call(*things)
    except (NoForm, Ring) as refusal:
        return (refusal.__class__, refusal.name)
    except KinError as refusal:
        return refusal.__class__


def plain_unfolded(stretch, forms):
    """[68, 69] by a list of rows that are still to be gone through, each with the names of the calls it came by."""
    waiting = [(row, []) for row in stretch]
    found = []
    while waiting:
        row, names = waiting.pop(0)
        if row == [] or row[0] != "use":
            if len(found) == 400:
                return TooMany
            found.append(row)
            continue
        if len(row) == 1 or not is_free(row[1]):
            return BadCall
        if row[1] not in forms:
            return (NoForm, row[1])
        if row[1] in names:
            return (Ring, row[1])
        form = forms[row[1]]
        if len(plain_holes(form)) != len(row) - 2:
            return BadFilling
        waiting[:0] = [(more, names + [row[1]]) for more in put_under(form, row[2:])]
    return found


def wide_form(holes):
    """A form of so many holes, 20 in a row."""
    return [list(range(holes))[at:at + 20] for at in range(0, holes, 20)] or [["a"]]


class FoldTest(unittest.TestCase):
    def test_parts_give_way_to_calls(self):
        stretch = stretch_of("q", "x = 1", "if x", "", "y = 2", "if y", "end")
        form = [[0, "=", 1], ["if", 0]]
        wanted = stretch_of("q", "use f x 1", "", "use f y 2", "end")
        self.assertEqual(fold(stretch, [1, 4], "f", form), wanted)
        self.assertEqual(fold(stretch, [4], "f", form), stretch[:4] + wanted[3:])
        self.assertEqual(fold(stretch, [1], "f", form), wanted[:2] + stretch[3:])
        self.assertEqual(fold(stretch, [], "f", form), stretch)
        self.assertEqual(fold([], [], "f", form), [])

    def test_arguments_by_name(self):
        self.assertEqual(fold(stretch=[["a"]], spots=[0], name="f", form=[[0]]), [["use", "f", "a"]])
        self.assertEqual(unfold(stretch=[["use", "f", "a"]], forms={"f": [[0, 0]]}), [["a", "a"]])

    def test_a_form_without_holes(self):
        self.assertEqual(fold(stretch_of("a", "end", "a"), [0, 2], "f", [["a"]]), stretch_of("use f", "end", "use f"))
        self.assertEqual(fold([[], [], []], [0, 1, 2], "f", [[]]), [["use", "f"]] * 3)

    def test_any_word_under_a_hole(self):
        self.assertEqual(fold(stretch_of("use g 1", "if + 2"), [0, 1], "f", [[0, 1, 2]]),
                         stretch_of("use f use g 1", "use f if + 2"))

    def test_spots_at_the_end_and_beside_one_another(self):
        stretch = stretch_of("a", "b", "c", "d")
        self.assertEqual(fold(stretch, [0, 2], "f", [[0], [1]]), stretch_of("use f a b", "use f c d"))
        self.assertEqual(fold(stretch, [2], "f", [[0], [1]]), stretch_of("a", "b", "use f c d"))
        self.assertEqual(fold(stretch, [0], "f", [[0], [1], [2], [3]]), stretch_of("use f a b c d"))

    def test_28_holes(self):
        words = [f"w{at}" for at in range(28)]
        self.assertEqual(fold([words[:20], words[20:]], [0], "f", wide_form(28)), [["use", "f"] + words])
        self.assertIs(told(fold, [], [], "f", wide_form(29)), Wide)

    def test_by_chance(self):
        folded = 0
        for seed in range(600):
            chance = random.Random(seed)
            words = ["a", "b", "use", "1"]
            stretch = any_rows(chance, words, chance.randrange(1, 9), 3)
            form = any_form(chance, [len(row) for row in stretch[:chance.randrange(1, 4)]], words[:2], 3)
            spots = chance.sample(range(9), chance.randrange(4))
            if chance.random() < 0.8:
                spots = apart(fitting(stretch, form), len(form))
                folded += len(spots)
            self.assertEqual(told(fold, stretch, spots, "f", form), self.plain_fold(stretch, spots, form))
        self.assertGreater(folded, 200)

    def plain_fold(self, stretch, spots, form):
        many = len(form)
        if any(spot + many > len(stretch) for spot in spots):
            return NoPlace
        if any(later - spot < many for spot, later in zip(spots, spots[1:])):
            return Overlap
        rows = list(stretch)
        for spot in reversed(spots):
            part = stretch[spot:spot + many]
            pool = sorted({word for row in part for word in row})
            fits = [list(words) for words in itertools.product(pool, repeat=len(plain_holes(form)))
                    if put_under(form, words) == part]
            if not fits:
                return NoFit
            rows[spot:spot + many] = [["use", "f"] + fits[0]]
        return rows


class FoldRefusalTest(unittest.TestCase):
    STRETCH = stretch_of("x = 1", "if x", "end", "y = 1", "if y")
    FORM = [[0, "=", "1"], ["if", 0]]

    def test_forms(self):
        for form in no_forms():
            self.assertIs(told(fold, self.STRETCH, [None], None, form), BadForm)
        self.assertIs(told(fold, self.STRETCH, [None], None, []), NoRows)
        for holes in (29, 30, 60):
            self.assertIs(told(fold, self.STRETCH, [None], None, wide_form(holes)), Wide)

    def test_names(self):
        for name in NO_NAMES:
            self.assertIs(told(fold, self.STRETCH, [None], name, self.FORM), BadName)
            self.assertIs(told(fold, self.STRETCH, [0, 3], name, self.FORM), BadName)
            self.assertIs(told(fold, self.STRETCH, [], name, wide_form(28)), BadName)

    def test_spots(self):
        for spot in NO_SPOTS + [4, 5, 10 ** 50]:
            for spots in ([spot], [0, spot], [spot, 0], [0, 0, spot], [1, spot]):
                self.assertIs(told(fold, self.STRETCH, spots, "f", self.FORM), NoPlace, spots)
        self.assertIs(told(fold, [], [0], "f", self.FORM), NoPlace)
        self.assertIs(told(fold, self.STRETCH, [0], "f", [[]] * 6), NoPlace)

    def test_overlap(self):
        for spots in ([0, 1], [0, 0], [3, 0], [3, 3], [2, 3], [0, 3, 3], [0, 3, 2], [1, 2]):
            self.assertIs(told(fold, self.STRETCH, spots, "f", self.FORM), Overlap, spots)
        self.assertIs(told(fold, [["a"]] * 5, [0, 2], "f", [["a"]] * 3), Overlap)
        self.assertEqual(fold([["a"]] * 6, [0, 3], "f", [["a"]] * 3), [["use", "f"]] * 2)

    def test_no_fit(self):
        for spots in ([1], [0, 2], [2], [1, 3]):
            self.assertIs(told(fold, self.STRETCH, spots, "f", self.FORM), NoFit)
        for form in ([["x"]], [[0, "=", "2"]], [[0, 1]], [[0, 1, 0]], [[0, 1, 2, 3]]):
            self.assertIs(told(fold, self.STRETCH, [0], "f", form), NoFit)

    def test_the_first_one_as_told(self):
        for form, name, spots, refused in (
                ([[1]], "if", [9, 0], BadForm), ([], "if", [9, 0], NoRows), (wide_form(29), "if", [9, 0], Wide),
                (self.FORM, "if", [9, 0], BadName), (self.FORM, "f", [1, 1, 9], NoPlace),
                (self.FORM, "f", [1, 1, 3], Overlap), (self.FORM, "f", [1, 3], NoFit)):
            self.assertIs(told(fold, self.STRETCH, spots, name, form), refused)


class UnfoldTest(unittest.TestCase):
    def test_calls_give_way_to_rows(self):
        forms = {"f": [[0, "=", 1], ["if", 0]], "g": [["end"]], "h": [[]]}
        self.assertEqual(unfold(stretch_of("q", "use f x 1", "", "use g", "use h", "x use f"), forms),
                         stretch_of("q", "x = 1", "if x", "", "end", "", "x use f"))
        self.assertEqual(unfold([], forms), [])
        self.assertEqual(unfold([["a"], []], {}), [["a"], []])

    def test_calls_within_calls(self):
        forms = {"f": [["use", "g", 0, 0], [0]], "g": [[0, "+", 1], ["use", "h"]], "h": [["end"]]}
        self.assertEqual(unfold(stretch_of("use f x", "use f 1", "use h"), forms),
                         stretch_of("x + x", "end", "x", "1 + 1", "end", "1", "end"))

    def test_use_and_names_as_fillings(self):
        forms = {"f": [[0, 1]], "g": [["end"]]}
        self.assertEqual(unfold(stretch_of("use f use g"), forms), [["end"]])
        self.assertEqual(unfold(stretch_of("use f a use"), forms), [["a", "use"]])
        self.assertIs(told(unfold, stretch_of("use f use if"), forms), BadCall)
        self.assertEqual(told(unfold, stretch_of("use f use q"), forms), (NoForm, "q"))
        self.assertEqual(told(unfold, stretch_of("use f use f"), forms), (Ring, "f"))
        self.assertIs(told(unfold, [["use", "k"]], {"k": [["use"]]}), BadCall)

    def test_bad_calls(self):
        forms = {"f": [["a"]], "use": [["a"]]}
        for row in ("use", "use use", "use if", "use 1", "use +", "use use f", "use 1 f", "use not"):
            self.assertIs(told(unfold, stretch_of(row), {"f": [["a"]]}), BadCall)
        self.assertEqual(unfold(stretch_of("a use", "f", "not use f", "( use f"), forms),
                         stretch_of("a use", "f", "not use f", "( use f"))

    def test_no_form(self):
        self.assertEqual(told(unfold, stretch_of("a", "use g", "use h"), {"h": [["a"]]}), (NoForm, "g"))
        self.assertEqual(told(unfold, stretch_of("use F"), {"f": [["a"]]}), (NoForm, "F"))
        self.assertEqual(told(unfold, stretch_of("use f a b"), {"f": [["use", 0, 1]]}), (NoForm, "a"))

    def test_ring(self):
        self.assertEqual(told(unfold, stretch_of("use f"), {"f": [["a"], ["use", "f"]]}), (Ring, "f"))
        forms = {"f": [["use", "g"]], "g": [["use", "h"]], "h": [["use", "g", "a"]]}
        self.assertEqual(told(unfold, stretch_of("use f"), forms), (Ring, "g"))
        forms["h"] = [["use", "f"]]
        self.assertEqual(told(unfold, stretch_of("a", "use h"), forms), (Ring, "h"))
        # Side by side, and by different ways, a form may come as often as it likes; and where no row comes to it.
        forms = {"f": [["use", "h"], ["use", "g"], ["use", "h"]], "g": [["use", "h"]], "h": [["a"]],
                 "i": [["use", "i"]], "j": [["use", "nowhere"], ["use"]]}
        self.assertEqual(unfold(stretch_of("use f", "use g", "use f"), forms), [["a"]] * 7)

    def test_bad_filling(self):
        forms = {"f": [[0, 1, 0]], "g": [["a"]], "h": [["use", "f", 0]]}
        for row in ("use f", "use f a", "use f a b c", "use g a", "use h a", "use h"):
            self.assertIs(told(unfold, stretch_of(row), forms), BadFilling)
        self.assertIs(told(unfold, [["use", "w"] + ["a"] * 28], {"w": wide_form(29)}), BadFilling)
        self.assertEqual(len(unfold([["use", "w"] + ["a"] * 28], {"w": wide_form(28)})), 2)

    def test_400_rows(self):
        forms = {"f": [["a"]] * 50, "g": [["use", "f"]] * 8, "h": [["b"]]}
        self.assertEqual(unfold(stretch_of("use g"), forms), [["a"]] * 400)
        self.assertEqual(unfold(stretch_of(*["use f"] * 7, *["x"] * 49, "use h"), forms)[-2:], [["x"], ["b"]])
        for rows in (["use g", ""], ["x", "use g"], ["use g", "use h"], ["use g", "use g"], ["use h", "use g", "use"]):
            self.assertIs(told(unfold, stretch_of(*rows), forms), TooMany)
        for row, refused in (("use", BadCall), ("use q", (NoForm, "q")), ("use h a", BadFilling)):
            self.assertEqual(told(unfold, stretch_of("use g", row, "x"), forms), refused)
        forms["r"] = [["use", "r"]]
        self.assertEqual(told(unfold, stretch_of("use g", "use r", "x"), forms), (Ring, "r"))

    def test_a_long_chain(self):
        forms = {f"f{at}": [["use", f"f{at + 1}", 0]] for at in range(29)}
        forms["f29"] = [[0]]
        self.assertEqual(unfold(stretch_of(*["use f0 x"] * 60), forms), [["x"]] * 60)
        forms["f29"] = [["use", "f3", 0]]
        self.assertEqual(told(unfold, stretch_of("use f4 x"), forms), (Ring, "f4"))

    def test_forms_refused_ahead_of_all_rows(self):
        for form in no_forms():
            for forms in ({"f": form}, {"g": [], "f": form}, {"f": form, "g": []}, {"g": [["a"]], "f": form}):
                self.assertIs(told(unfold, stretch_of("use"), forms), BadForm)
            self.assertIs(told(unfold, [], {"f": form}), BadForm)
        for stretch in ([], stretch_of("a"), stretch_of("use"), stretch_of("use q")):
            self.assertIs(told(unfold, stretch, {"g": [["a"]], "f": []}), NoRows)

    def test_the_first_row_at_which_one_is_due(self):
        forms = {"f": [["a"], ["use", "g", "x"]], "g": [["use"]], "h": [["use", "h"]]}
        cases = [("use", BadCall), ("use q", (NoForm, "q")), ("use h", (Ring, "h")), ("use f a", BadFilling)]
        for (one, first), (other, second) in itertools.permutations(cases, 2):
            self.assertEqual(told(unfold, stretch_of("a", one, other), forms), first)
        for row, refused in cases:
            # The rows put in place of a call are gone through ahead of the row behind it.
            self.assertIs(told(unfold, stretch_of("use f", row), forms), BadFilling)
        self.assertEqual(told(unfold, stretch_of("use q x", "use"), forms), (NoForm, "q"))

    def test_by_chance(self):
        seen = []
        for seed in range(1500):
            chance = random.Random(seed)
            words = ["use", "f", "g", "h", "a", "1", "if"]
            forms = {}
            for name in chance.sample(["f", "g", "h"], chance.randrange(4)):
                shape = [chance.randrange(4) for row in range(chance.randrange(1, 4))]
                forms[name] = any_form(chance, shape, words + ["a"] * 6, chance.randrange(3))
                if chance.random() < 0.4:
                    forms[name].append(["use", chance.choice(["f", "g", "h"])] + ["a"] * chance.randrange(2))
            stretch = any_rows(chance, words, chance.randrange(5), 3)
            if chance.random() < 0.5:
                stretch += [["use", name] + ["a"] * len(plain_holes(forms[name])) for name in forms]
                stretch = stretch[-2:]
            wanted = plain_unfolded(stretch, forms)
            self.assertEqual(told(unfold, stretch, forms), wanted)
            seen.append(wanted[0] if isinstance(wanted, tuple) else wanted if isinstance(wanted, type) else None)
        for kind in (None, BadCall, NoForm, Ring, BadFilling):
            self.assertGreater(seen.count(kind), 20, kind)


class BackTest(unittest.TestCase):
    """[70]"""

    def test_what_is_folded_unfolds_to_what_was_there(self):
        called = refused = 0
        for seed in range(1500):
            chance = random.Random(seed)
            words = ["use", "g", "h", "a", "b"]
            forms = {"g": [["end"], [0]], "h": [["use", "g", 0]]}
            stretch = any_rows(chance, words[3:], chance.randrange(1, 7), 2)
            stretch += [["use", "g", chance.choice(words)], ["use", "h", "a"]] * chance.randrange(3)
            first = chance.randrange(len(stretch))
            part = stretch[first:first + chance.randrange(1, 4)]
            form = form_of([part, [[chance.choice([word, "b"]) for word in row] for row in part]])
            spots = apart(fitting(stretch, form), len(form))
            before = told(unfold, stretch, forms)
            if not isinstance(before, list):
                refused += 1
                continue
            folded = fold(stretch, spots, "f", form)
            self.assertEqual(unfold(folded, {**forms, "f": form}), before)
            called += len(spots)
        self.assertGreater(called, 1500)
        self.assertLess(refused, 500)

    def test_with_29_forms_besides(self):
        forms = {f"g{at}": [["a", 0]] for at in range(29)}
        stretch = stretch_of("use g0 x", "use g28 y", "z")
        form = [["use", 0, 1]]
        self.assertEqual(unfold(fold(stretch, [0, 1], "f", form), {**forms, "f": form}), unfold(stretch, forms))


class OwnTest(unittest.TestCase):
    def test_what_was_handed_in_stays(self):
        for call, *things in ((fold, stretch_of("a", "b", "c"), [1], "f", [[0]]), (fold, [["a"]], [0, 0], "f", [[0]]),
                              (unfold, stretch_of("a", "use f x"), {"f": [[0], ["end"]], "g": [[]]}),
                              (unfold, stretch_of("a", "use f"), {"f": [[0], ["end"]]})):
            before = copy.deepcopy(things)
            found = told(call, *things)
            self.assertEqual(things, before)
            if isinstance(found, list):
                for row in found:
                    row.append("changed")
                found.clear()
                self.assertEqual(things, before)

    def test_rows_told_are_unlike_things(self):
        found = unfold(stretch_of("use f", "use f"), {"f": [["a"]]})
        found[0].append("changed")
        self.assertEqual(found[1], ["a"])
        found = fold([["a"], ["a"]], [0, 1], "f", [["a"]])
        found[0].append("changed")
        self.assertEqual(found[1], ["use", "f"])


if __name__ == "__main__":
    unittest.main()
