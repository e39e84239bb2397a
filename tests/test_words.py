"""Promises 1 to 4 and 6, as far as rows and words go."""

import random
import re
import unittest

from kinrows.errors import BadRow, BadWord
from kinrows.words import is_free, is_name, is_word, plain, read, write
from tests.things import odd_lists, odd_things

KEPT = "and def do else end for if in not or return use while".split()
LETTERS = "abcdefghijklmnopqrstuvwxyzABCDEFGHIJKLMNOPQRSTUVWXYZ_"
FIGURES = "0123456789"
# Of the sign with the number 37 nothing is promised.
SIGNS = [chr(code) for code in range(33, 127) if code != 37]
SINGLE = [sign for sign in SIGNS if sign not in LETTERS + FIGURES]
BARRED_SIGNS = ("\n", "\t")
WORD_SHAPE = re.compile("[A-Za-z_][A-Za-z0-9_]*|[0-9]+|[!-~]")


def told(call, *things):
    """What a call tells, or the class of its refusal."""
    try:
        return call(*things)
    except (BadRow, BadWord) as refusal:
        return refusal.__class__


def read_by_shape(text):
    """What read ought to tell of a text of the signs from the blank to ~, found another way."""
    words = WORD_SHAPE.findall(text)
    good = len(text) <= 1000 and len(words) <= 30 and all(len(word) <= 20 for word in words)
    return words if good else BadRow


class ReadTest(unittest.TestCase):
    def test_names_numbers_and_single_signs(self):
        for row, words in [
            ("if x1 <= 10 do y = y + x1", ["if", "x1", "<", "=", "10", "do", "y", "=", "y", "+", "x1"]),
            ("total=total*3", ["total", "=", "total", "*", "3"]),
            ("12ab", ["12", "ab"]),
            ("ab12", ["ab12"]),
            ("1_2", ["1", "_2"]),
            ("_", ["_"]),
            ("__a9 _9", ["__a9", "_9"]),
            ("a-b", ["a", "-", "b"]),
            ("3.14", ["3", ".", "14"]),
            ("-5", ["-", "5"]),
            ("007 0", ["007", "0"]),
            ("a==b!=c", ["a", "=", "=", "b", "!", "=", "c"]),
            ("\"it's\"", ["\"", "it", "'", "s", "\""]),
            ("Ab aB", ["Ab", "aB"]),
            ("\\n", ["\\", "n"]),
        ]:
            with self.subTest(row):
                self.assertEqual(read(row), words)

    def test_blanks_only_part_words(self):
        self.assertEqual(read("  a   b  1 2 "), ["a", "b", "1", "2"])
        self.assertEqual(read("a b"), read("a      b"))
        self.assertEqual(read("a+b"), read("a + b"))
        self.assertEqual(read("1 2"), ["1", "2"])

    def test_rows_without_words(self):
        for row in ("", " ", "     ", " " * 1000):
            self.assertEqual(read(row), [])
            self.assertEqual(plain(row), "")

    def test_each_sign_by_itself_is_a_word(self):
        for sign in SIGNS:
            self.assertEqual(read(sign), [sign])

    def test_each_sign_behind_a_name_a_number_and_a_sign(self):
        for sign in SIGNS:
            in_name = sign in LETTERS + FIGURES
            self.assertEqual(read("x" + sign), ["x" + sign] if in_name else ["x", sign])
            self.assertEqual(read("5" + sign), ["5" + sign] if sign in FIGURES else ["5", sign])
            self.assertEqual(read("+" + sign), ["+", sign])

    def test_kept_names_are_words_like_others(self):
        self.assertEqual(read(" ".join(KEPT)), KEPT)

    def test_words_of_20_and_21_signs(self):
        for word in ("a" * 20, "_" * 20, "Z9" * 10, "7" * 20, "0" * 20):
            self.assertEqual(read(word), [word])
            self.assertEqual(read("(" + word + ")"), ["(", word, ")"])
            self.assertEqual(told(read, word + word[-1]), BadRow)
            self.assertEqual(told(read, "x = " + word + word[-1]), BadRow)
            self.assertEqual(told(read, "(" + word + word[-1] + ")"), BadRow)
        self.assertEqual(read("7" * 20 + "a" * 20), ["7" * 20, "a" * 20])
        self.assertEqual(told(read, "a" * 20 + "7"), BadRow)
        self.assertEqual(told(read, "a " * 29 + "b" * 21), BadRow)

    def test_rows_of_30_and_31_words(self):
        self.assertEqual(read("a " * 30), ["a"] * 30)
        self.assertEqual(read("+" * 30), ["+"] * 30)
        self.assertEqual(read("1a" + "-" * 28), ["1", "a"] + ["-"] * 28)
        self.assertEqual(told(read, "a " * 31), BadRow)
        self.assertEqual(told(read, "+" * 31), BadRow)
        self.assertEqual(told(read, "1a" + "-" * 29), BadRow)

    def test_texts_of_1000_and_1001_signs(self):
        self.assertEqual(read(" " * 999 + "a"), ["a"])
        self.assertEqual(read("a" + " " * 999), ["a"])
        self.assertEqual(told(read, " " * 1001), BadRow)
        self.assertEqual(told(read, " " * 1000 + "a"), BadRow)
        self.assertEqual(told(read, "a" + " " * 1000), BadRow)
        self.assertEqual(told(read, " " * 100000), BadRow)
        full = (" " * 13).join(["b" * 20] * 30)
        self.assertEqual(read(full + " " * (1000 - len(full))), ["b" * 20] * 30)

    def test_line_feed_and_tabulator_at_any_place(self):
        for row in ("", " ", "   ", "a", "a b", "  a  12 +  ", "a+b"):
            for sign in BARRED_SIGNS:
                for at in range(len(row) + 1):
                    with self.subTest(row=row, sign=sign, at=at):
                        self.assertEqual(told(read, row[:at] + sign + row[at:]), BadRow)
                        self.assertEqual(told(plain, row[:at] + sign + row[at:]), BadRow)

    def test_things_of_any_kind(self):
        for thing in odd_things() + odd_lists():
            with self.subTest(thing):
                self.assertEqual(told(read, thing), BadRow)
                self.assertEqual(told(plain, thing), BadRow)

    def test_held_against_another_way_of_reading(self):
        chance = random.Random(2)
        for signs in ("ab1 ", "aZ_09+ ", "".join(SIGNS) + "    ", "a" * 9 + " ", "1" * 9 + "a "):
            for turn in range(400):
                text = "".join(chance.choice(signs) for at in range(chance.randrange(45)))
                self.assertEqual(told(read, text), read_by_shape(text), text)


class WriteTest(unittest.TestCase):
    def test_one_blank_between_two_words(self):
        self.assertEqual(write(["a", "=", "12", "+", "b"]), "a = 12 + b")
        self.assertEqual(write(["1", "2"]), "1 2")
        self.assertEqual(write(["a"]), "a")
        self.assertEqual(write([]), "")

    def test_written_and_read_again(self):
        for words in ([], ["x"], ["12", "ab"], ["=", "="], ["use", "f", "1"], ["w" * 20] * 30, SINGLE[:30]):
            self.assertEqual(read(write(words)), words)

    def test_no_words(self):
        for thing in odd_things() + odd_lists() + ["", " ", "a b", "ab ", " ab", "1a", "++", "a" * 21, "1" * 21]:
            for words in ([thing], ["a", thing], [thing, "a"], ["a", thing, "b"]):
                with self.subTest(words):
                    self.assertEqual(told(write, words), BadWord)

    def test_line_feed_and_tabulator(self):
        for word in ("\n", "\t", "a\n", "\na", "a\nb", "a\t", "\ta", "1\n", "+\n", " \n"):
            self.assertEqual(told(write, [word]), BadWord)

    def test_things_that_are_no_list(self):
        for thing in odd_things() + ["", "ab"]:
            self.assertEqual(told(write, thing), BadWord)

    def test_30_and_31_words(self):
        self.assertEqual(write(["ab"] * 30), " ".join(["ab"] * 30))
        self.assertEqual(told(write, ["ab"] * 31), BadRow)
        self.assertEqual(told(write, ["ab"] * 100), BadRow)

    def test_bad_word_comes_ahead_of_bad_row(self):
        for at in (0, 15, 29, 30, 31, 99):
            words = ["a"] * 100
            words[at] = "a b"
            self.assertEqual(told(write, words), BadWord)
        self.assertEqual(told(write, ["a"] * 30 + [None]), BadWord)


class PlainTest(unittest.TestCase):
    def test_plain_text(self):
        self.assertEqual(plain("  x1=12ab+ y  "), "x1 = 12 ab + y")
        self.assertEqual(plain("a"), "a")
        self.assertEqual(plain("((a))"), "( ( a ) )")

    def test_is_a_row_again_of_the_same_words(self):
        chance = random.Random(3)
        for turn in range(300):
            text = "".join(chance.choice("ab1+-( ") for at in range(chance.randrange(30)))
            self.assertEqual(read(plain(text)), read(text))
            self.assertEqual(plain(plain(text)), plain(text))
            self.assertEqual(plain(text), write(read(text)))

    def test_longest_plain_text(self):
        row = " ".join(["n" * 20] * 30)
        self.assertEqual(plain(row), row)
        self.assertEqual(plain("+" * 30), " ".join("+" * 30))

    def test_no_rows(self):
        for text in ("+" * 31, "a" * 21, "1" * 21, " " * 1001, "a\n", "\t"):
            self.assertEqual(told(plain, text), BadRow)


class KindsTest(unittest.TestCase):
    def assert_kinds(self, thing, word, name, free):
        with self.subTest(thing):
            self.assertIs(is_word(thing), word)
            self.assertIs(is_name(thing), name)
            self.assertIs(is_free(thing), free)

    def test_free_names(self):
        for name in ("a", "Z", "_", "__", "a1", "_1", "x_y", "A" * 20, "_" + "9" * 19, "ands", "_if", "define"):
            self.assert_kinds(name, True, True, True)

    def test_no_other_name_is_kept(self):
        for name in ("elif is then let to of as else1 class import from break continue pass yield lambda try True None "
                     "ends define uses while_ inn f i d").split():
            self.assert_kinds(name, True, True, True)

    def test_kept_names(self):
        self.assertEqual(len(KEPT), 13)
        for name in KEPT:
            self.assert_kinds(name, True, True, False)

    def test_kept_names_with_great_letters_are_free(self):
        for name in KEPT:
            self.assert_kinds(name.upper(), True, True, True)
            self.assert_kinds(name.capitalize(), True, True, True)
            self.assert_kinds(name[:-1] + name[-1].upper(), True, True, True)

    def test_all_names_of_a_sign_or_two(self):
        for one in LETTERS:
            self.assert_kinds(one, True, True, True)
            for other in LETTERS + FIGURES:
                self.assert_kinds(one + other, True, True, one + other not in KEPT)

    def test_numbers(self):
        for number in ("0", "7", "007", "1" * 20):
            self.assert_kinds(number, True, False, False)

    def test_single_signs(self):
        for sign in SINGLE:
            self.assert_kinds(sign, True, False, False)

    def test_texts_that_are_no_words(self):
        for text in ("", " ", "  ", "a ", " a", "a b", "1 ", "12ab", "1_", "a+", "+a", "==", "a-b", "1.5", "-1", "+ ",
                     "a" * 21, "_" * 21, "1" * 21, "a" * 1000):
            self.assert_kinds(text, False, False, False)

    def test_line_feed_and_tabulator(self):
        for word in ("a", "ab", "12", "+", "if", " ", ""):
            for sign in BARRED_SIGNS:
                for at in range(len(word) + 1):
                    self.assert_kinds(word[:at] + sign + word[at:], False, False, False)

    def test_things_of_any_kind(self):
        for thing in odd_things() + odd_lists():
            self.assert_kinds(thing, False, False, False)


class OwnTest(unittest.TestCase):
    """Promise 1: what is handed in stays, and what is told is the asker's own."""

    def test_what_is_read_is_the_askers_own(self):
        first = read("a b")
        first.append("c")
        first[0] = None
        self.assertEqual(read("a b"), ["a", "b"])

    def test_what_is_written_stays(self):
        words = ["a", "+", "1"]
        write(words)
        self.assertEqual(words, ["a", "+", "1"])
        for wrong in (["a", [], "b"], ["a"] * 31):
            before = list(wrong)
            told(write, wrong)
            self.assertEqual(wrong, before)

    def test_a_written_list_may_be_changed_behind_the_call(self):
        words = ["a", "b"]
        text = write(words)
        words[0] = "c"
        self.assertEqual(text, "a b")
        self.assertEqual(write(words), "c b")

    def test_arguments_by_name(self):
        self.assertEqual(read(row="a+1"), ["a", "+", "1"])
        self.assertEqual(write(words=["a", "1"]), "a 1")
        self.assertEqual(plain(row="a+1"), "a + 1")
        self.assertEqual((is_word(thing="+"), is_name(thing="if"), is_free(thing="if")), (True, True, False))


if __name__ == "__main__":
    unittest.main()
