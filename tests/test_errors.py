"""Promise 6: each refusal is of its own class, straight under KinError; and the fields of [13, 14, 25, 69]."""

import inspect
import itertools
import unittest

from kinrows import errors

REFUSALS = """BadRow BadWord BadRenaming Clash NoTitle NoPlace BadForm Shape NoRows BadFilling TooLong BadDay
BadTitle Known Same Full NoDeed NoDebt Wide BadName Overlap NoFit TooMany BadCall NoForm Ring""".split()

WITH_NAME = ("Clash", "NoForm", "Ring")


def made(name):
    """One refusal of that class."""
    kind = getattr(errors, name)
    if name in WITH_NAME:
        return kind("box")
    return kind(7) if name == "Shape" else kind("why")


class ClassesTest(unittest.TestCase):
    def test_kin_error_is_straight_under_value_error(self):
        self.assertEqual(errors.KinError.__bases__, (ValueError,))

    def test_there_are_the_26_of_the_interface(self):
        self.assertEqual(len(REFUSALS), 26)
        told = [name for name, kind in vars(errors).items() if inspect.isclass(kind)]
        self.assertEqual(sorted(told), sorted(REFUSALS + ["KinError"]))

    def test_each_is_straight_under_kin_error(self):
        for name in REFUSALS:
            with self.subTest(name):
                self.assertEqual(getattr(errors, name).__bases__, (errors.KinError,))
                self.assertEqual(getattr(errors, name).__name__, name)

    def test_none_is_of_the_class_of_another(self):
        for one, other in itertools.permutations(REFUSALS, 2):
            self.assertNotIsInstance(made(one), getattr(errors, other))

    def test_each_is_caught_as_kin_error_and_as_value_error(self):
        for name in REFUSALS:
            for caught in (errors.KinError, ValueError):
                with self.subTest(name), self.assertRaises(caught):
                    raise made(name)


class FieldsTest(unittest.TestCase):
    def test_name_by_place_and_by_name(self):
        for name in WITH_NAME:
            kind = getattr(errors, name)
            self.assertEqual(kind("box").name, "box")
            self.assertEqual(kind(name="lid").name, "lid")

    def test_row_by_place_and_by_name(self):
        self.assertEqual(errors.Shape(0).row, 0)
        self.assertEqual(errors.Shape(row=12).row, 12)

    def test_fields_belong_to_each_object(self):
        one, other = errors.Clash("a"), errors.Clash("b")
        self.assertEqual((one.name, other.name), ("a", "b"))
        self.assertFalse(hasattr(errors.Clash, "name"))
        self.assertFalse(hasattr(errors.Shape, "row"))

    def test_each_has_some_text(self):
        for name in REFUSALS:
            self.assertTrue(str(made(name)))


if __name__ == "__main__":
    unittest.main()
