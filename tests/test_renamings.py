"""Promises 13 and 14, and 1, 5 and 6 as far as renamings go."""

import copy
import itertools
import random
import unittest

from kinrows.errors import BadRenaming, Clash
from kinrows.renamings import followed, renamed, turned
from kinrows.words import is_free, read
from tests.things import odd_things

NAMES = ["a", "b", "c", "d"]
SWAP = [("a", "b"), ("b", "a")]


def stretch_of(*rows):
    return [read(row) for row in rows]


def refused(call, *things):
    """What a call tells, or the class of its refusal, a Clash with its name."""
    try:
        return call(*things)
    except BadRenaming:
        return BadRenaming
    except Clash as clash:
        return (Clash, clash.name)


def no_renamings():
    """Things that are no renamings, of many kinds."""
    wrong = odd_things() + ["", "ab", (("a", "b"),), {"a": "b"}, [[("a", "b")]]]
    for pair in odd_things() + ["", "ab", "a", [], ["a", "b"], ["a"]]:
        # The one odd thing that is a pair is no wrong pair.
        if pair != ("a", "b"):
            wrong += [[pair], [("a", "b"), pair], [pair, ("a", "b")]]
    wrong += [[()], [("a",)], [("a", "b", "c")], [("a", "b"), ("c", "d", "d")], [(("a", "b"), ("c", "d"))]]
    no_names = ["", " ", "1", "+", "if", "use", "while", "a b", "1a", "a ", "a\n", "\ta", "x" * 21, [], ["a"], ("a",)]
    for name in no_names + odd_things():
        wrong += [[(name, "b")], [("b", name)], [("c", "d"), (name, "b")], [("c", "d"), ("b", name)], [(name, name)]]
    return wrong + twice_told()


def twice_told():
    """Lists of pairs of free names with an old or a new twice."""
    return [[("a", "b"), ("a", "c")], [("a", "b"), ("c", "b")], [("a", "b"), ("a", "b")], [("a", "a"), ("a", "a")],
            [("a", "a"), ("b", "a")], [("a", "a"), ("a", "b")], [("a", "b"), ("c", "d"), ("e", "f"), ("a", "g")],
            [("a", "b"), ("c", "d"), ("e", "f"), ("g", "b")]]


def small_renamings():
    """All renamings of at most three pairs among three names."""
    found = []
    for many in range(4):
        for olds in itertools.permutations(NAMES[:3], many):
            found += [list(zip(olds, news)) for news in itertools.permutations(NAMES[:3], many)]
    return found


def any_renaming(chance, names):
    many = chance.randrange(len(names) + 1)
    return list(zip(chance.sample(names, many), chance.sample(names, many)))


def any_stretch(chance, names):
    words = names + ["if", "7", "+", "A"]
    return [[chance.choice(words) for word in range(chance.randrange(5))] for row in range(chance.randrange(4))]


def renamed_by_places(stretch, names):
    """What renamed ought to tell, gone through place by place."""
    places = [(row, word) for row in range(len(stretch)) for word in range(len(stretch[row]))]
    result = [[None] * len(row) for row in stretch]
    for row, word in places:
        here = stretch[row][word]
        news = [new for old, new in names if old == here]
        if not news and is_free(here) and any(new == here for old, new in names):
            return (Clash, here)
        result[row][word] = news[0] if news else here
    return result


class RenamedTest(unittest.TestCase):
    def test_each_old_has_its_new(self):
        one = stretch_of("if total > 10 do", "total = total - step", "end")
        other = stretch_of("if sum > 10 do", "sum = sum - by", "end")
        self.assertEqual(renamed(one, [("total", "sum"), ("step", "by")]), other)

    def test_other_words_stay(self):
        stretch = stretch_of("for k in xs do", "12 + - ( )", "use k k", "", "return not k")
        self.assertEqual(renamed(stretch, [("y", "z")]), stretch)
        self.assertEqual(renamed(stretch, [("k", "m")])[2], ["use", "m", "m"])

    def test_names_with_great_letters_are_other_names(self):
        self.assertEqual(renamed([["a", "A", "If", "if"]], [("A", "B"), ("If", "IF")]), [["a", "B", "IF", "if"]])

    def test_empty_renaming_and_empty_stretches(self):
        self.assertEqual(renamed([["a", "1"], []], []), [["a", "1"], []])
        self.assertEqual(renamed([], [("a", "b")]), [])
        self.assertEqual(renamed([[], []], [("a", "b")]), [[], []])
        self.assertEqual(renamed([], []), [])

    def test_names_that_stay(self):
        self.assertEqual(renamed([["a", "b"]], [("a", "a")]), [["a", "b"]])
        self.assertEqual(renamed([["a", "b"]], [("a", "a"), ("b", "c")]), [["a", "c"]])

    def test_news_that_are_olds(self):
        self.assertEqual(renamed([["a", "b", "a"]], SWAP), [["b", "a", "b"]])
        self.assertEqual(renamed([["a", "b", "c"]], [("a", "b"), ("b", "c"), ("c", "a")]), [["b", "c", "a"]])
        self.assertEqual(renamed([["a", "b"]], [("a", "b"), ("b", "c")]), [["b", "c"]])
        self.assertEqual(renamed([["a", "b"]], [("b", "c"), ("a", "b")]), [["b", "c"]])

    def test_clash(self):
        self.assertEqual(refused(renamed, [["b"]], [("a", "b")]), (Clash, "b"))
        self.assertEqual(refused(renamed, [["a", "b"]], [("a", "b")]), (Clash, "b"))
        self.assertEqual(refused(renamed, [["a", "b", "c"]], [("a", "b"), ("b", "c")]), (Clash, "c"))

    def test_clash_has_the_first_name_place_by_place(self):
        names = [("a", "x"), ("b", "y"), ("c", "z")]
        self.assertEqual(refused(renamed, [["a"], ["q", "z"], ["y", "x"]], names), (Clash, "z"))
        self.assertEqual(refused(renamed, [["a", "b", "c", "y"], ["x", "z"]], names), (Clash, "y"))
        self.assertEqual(refused(renamed, [[], ["1"], ["x"], ["y"]], names[::-1]), (Clash, "x"))

    def test_longest_stretches(self):
        stretch = [["n" * 20, "a"] * 15 for row in range(60)]
        self.assertEqual(renamed(stretch, [("a", "m" * 20)]), [["n" * 20, "m" * 20] * 15 for row in range(60)])

    def test_renaming_of_1800_pairs(self):
        stretch = [[f"v{30 * row + word}" for word in range(30)] for row in range(60)]
        names = [(f"v{at}", f"w{at}") for at in range(1800)]
        self.assertEqual(renamed(stretch, names), [[name.replace("v", "w") for name in row] for row in stretch])
        self.assertEqual(renamed(renamed(stretch, names), turned(names)), stretch)
        self.assertEqual(refused(turned, names[:1799] + [("v0", "u")]), BadRenaming)

    def test_held_against_going_place_by_place(self):
        chance = random.Random(13)
        for turn in range(2000):
            stretch, names = any_stretch(chance, NAMES), any_renaming(chance, NAMES)
            self.assertEqual(refused(renamed, stretch, names), renamed_by_places(stretch, names))


class BadRenamingTest(unittest.TestCase):
    def test_renamed(self):
        for thing in no_renamings():
            with self.subTest(thing):
                self.assertEqual(refused(renamed, [["x", "+"]], thing), BadRenaming)
                self.assertEqual(refused(renamed, [], thing), BadRenaming)

    def test_turned(self):
        for thing in no_renamings():
            with self.subTest(thing):
                self.assertEqual(refused(turned, thing), BadRenaming)

    def test_followed_by_either_and_both(self):
        for thing in no_renamings():
            with self.subTest(thing):
                self.assertEqual(refused(followed, thing, []), BadRenaming)
                self.assertEqual(refused(followed, [], thing), BadRenaming)
                self.assertEqual(refused(followed, [("p", "q")], thing), BadRenaming)
                self.assertEqual(refused(followed, thing, thing), BadRenaming)

    def test_comes_ahead_of_clash(self):
        for tail in (None, ("if", "z"), ["y", "z"], ("y", "b"), ("a", "z")):
            names = [("a", "b"), tail]
            self.assertEqual(refused(renamed, [["b"]], names), BadRenaming)
            self.assertEqual(refused(followed, [("x", "b")], names), BadRenaming)
            self.assertEqual(refused(followed, [("x", "b"), tail, tail], [("a", "b")]), BadRenaming)

    def test_longest_names(self):
        self.assertEqual(turned([("x" * 20, "y" * 20)]), [("y" * 20, "x" * 20)])
        self.assertEqual(refused(turned, [("x" * 21, "y")]), BadRenaming)
        self.assertEqual(refused(turned, [("x", "y" * 21)]), BadRenaming)

    def test_kept_names_with_great_letters_are_renamed(self):
        self.assertEqual(turned([("IF", "And")]), [("And", "IF")])


class TurnedTest(unittest.TestCase):
    def test_same_order(self):
        self.assertEqual(turned([("a", "x"), ("c", "b"), ("b", "a")]), [("x", "a"), ("b", "c"), ("a", "b")])
        self.assertEqual(turned([("a", "a")]), [("a", "a")])
        self.assertEqual(turned([]), [])
        self.assertEqual(turned(SWAP), [("b", "a"), ("a", "b")])

    def test_twice_turned(self):
        for names in small_renamings():
            self.assertEqual(turned(turned(names)), names)

    def test_leads_back(self):
        names = [("a", "b"), ("b", "c"), ("c", "d")]
        stretch = [["a", "b", "1"], ["c", "if"]]
        self.assertEqual(renamed(renamed(stretch, names), turned(names)), stretch)


class FollowedTest(unittest.TestCase):
    def test_pairs_in_the_order_of_the_one(self):
        one = [("c", "x"), ("a", "y"), ("b", "z")]
        self.assertEqual(followed(one, [("y", "q"), ("x", "p")]), [("c", "p"), ("a", "q"), ("b", "z")])

    def test_empty_ones(self):
        self.assertEqual(followed([], []), [])
        self.assertEqual(followed([("a", "b")], []), [("a", "b")])
        self.assertEqual(followed([], [("a", "b")]), [])

    def test_names_that_stay_and_news_that_are_olds(self):
        self.assertEqual(followed([("a", "a")], [("a", "b")]), [("a", "b")])
        self.assertEqual(followed([("a", "b")], [("b", "b")]), [("a", "b")])
        self.assertEqual(followed([("a", "b")], [("b", "a")]), [("a", "a")])
        self.assertEqual(followed(SWAP, SWAP), [("a", "a"), ("b", "b")])
        self.assertEqual(followed([("a", "b")], [("b", "c"), ("c", "d")]), [("a", "c")])

    def test_an_old_of_the_other_that_is_no_new_of_the_one_is_not_told(self):
        self.assertEqual(followed([("a", "b")], [("b", "c"), ("x", "y")]), [("a", "c")])

    def test_clash_has_the_first_such_new(self):
        self.assertEqual(refused(followed, [("a", "b")], [("c", "b")]), (Clash, "b"))
        one = [("a", "p"), ("b", "q"), ("c", "r"), ("d", "s")]
        self.assertEqual(refused(followed, one, [("x", "r"), ("y", "q"), ("p", "p")]), (Clash, "q"))
        self.assertEqual(refused(followed, one[::-1], [("x", "q"), ("y", "r")]), (Clash, "r"))

    def test_an_old_of_the_one_alone_is_no_clash(self):
        self.assertEqual(followed([("a", "b")], [("x", "a")]), [("a", "b")])

    def test_two_steps_as_one(self):
        chance = random.Random(14)
        for one, other in itertools.product(small_renamings(), repeat=2):
            both = refused(followed, one, other)
            if isinstance(both, list):
                stretch = any_stretch(chance, [old for old, new in one])
                # A is no old of any of these renamings.
                stretch = [[word for word in row if word != "A"] for row in stretch]
                self.assertEqual(renamed(renamed(stretch, one), other), renamed(stretch, both))
                self.assertEqual(turned(turned(both)), both)

    def test_clash_just_where_a_new_would_be_twice(self):
        for one, other in itertools.product(small_renamings(), repeat=2):
            olds, news = [old for old, new in other], [new for old, new in other]
            clashing = [new for old, new in one if new in news and new not in olds]
            expected = [(old, dict(other).get(new, new)) for old, new in one]
            self.assertEqual(refused(followed, one, other), (Clash, clashing[0]) if clashing else expected)


class OwnTest(unittest.TestCase):
    """Promise 1: what is handed in stays, and what is told is the asker's own."""

    def test_what_is_handed_in_stays(self):
        calls = [(renamed, [["a", "b"], ["c"]], SWAP), (renamed, [["a", "z"]], [("a", "z")]), (turned, SWAP),
                 (followed, SWAP, [("a", "c")]), (followed, [("x", "c")], [("a", "c")]), (turned, [["a", "b"], None])]
        for call, *things in calls:
            before = copy.deepcopy(things)
            refused(call, *things)
            self.assertEqual(things, before)

    def test_it_may_be_changed_behind_the_call(self):
        stretch, names = [["a"], ["b"]], [("a", "x")]
        result, back, both = renamed(stretch, names), turned(names), followed(names, [])
        stretch[0][0] = stretch[1][0] = "q"
        stretch.append(["r"])
        names[0] = ("b", "y")
        names.append(("c", "z"))
        self.assertEqual((result, back, both), ([["x"], ["b"]], [("x", "a")], [("a", "x")]))

    def test_changing_what_is_told_changes_nothing(self):
        stretch, names = [["a"], ["b"], []], [("a", "x")]
        for told in (renamed(stretch, []), renamed(stretch, names)):
            for row in told:
                row.append("new")
            told.append(["new"])
        for told in (turned([]), turned(names), followed(names, []), followed(names, names[:0])):
            told.append(("p", "q"))
        self.assertEqual((stretch, names), ([["a"], ["b"], []], [("a", "x")]))
        self.assertEqual(renamed(stretch, names), [["x"], ["b"], []])
        self.assertEqual(turned(names), [("x", "a")])
        self.assertEqual(followed(names, []), [("a", "x")])

    def test_rows_told_are_unlike_lists(self):
        row = ["a"]
        told = renamed([row, row], [])
        told[0].append("b")
        self.assertEqual(told, [["a", "b"], ["a"]])

    def test_kinds_of_what_is_told(self):
        for told in (turned(SWAP), followed(SWAP, SWAP), followed(SWAP, [])):
            self.assertIs(type(told), list)
            self.assertEqual({type(pair) for pair in told}, {tuple})
        self.assertEqual([type(row) for row in renamed([["a"], []], SWAP)], [list, list])

    def test_arguments_by_name(self):
        self.assertEqual(renamed(stretch=[["a"]], names=SWAP), [["b"]])
        self.assertEqual(renamed(names=SWAP, stretch=[["b"]]), [["a"]])
        self.assertEqual(turned(names=[("a", "b")]), [("b", "a")])
        self.assertEqual(followed(other=[("b", "c")], one=[("a", "b")]), [("a", "c")])


if __name__ == "__main__":
    unittest.main()
