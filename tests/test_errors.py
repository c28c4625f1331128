"""Point 5: the error classes, their base classes and their fields."""

import copy
import unittest

from laterthemes import errors
from tests.support import odd_objects

FIELDS = {
    "InvalidBook": "value", "PossibleRing": "ring", "UnknownName": "name", "InvalidLayer": "value",
    "NotAllowed": "index", "InvalidClaim": "value", "InvalidNumber": "value", "InvalidList": "value",
    "MismatchedBooks": None, "BrokenClaim": "claim", "NothingToUndo": None,
}


def with_field():
    return [(getattr(errors, name), field) for name, field in FIELDS.items() if field is not None]


class BaseClasses(unittest.TestCase):
    def test_theme_error(self):
        self.assertEqual(errors.ThemeError.__bases__, (ValueError,))

    def test_there_are_eleven(self):
        self.assertEqual(len(FIELDS), 11)
        own = [item for item in vars(errors).values() if isinstance(item, type)]
        self.assertEqual({item.__name__ for item in own}, set(FIELDS) | {"ThemeError"})

    def test_each_is_derived_directly(self):
        for name in FIELDS:
            with self.subTest(name=name):
                self.assertEqual(getattr(errors, name).__bases__, (errors.ThemeError,))

    def test_each_is_of_no_other_class(self):
        for one in FIELDS:
            for other in FIELDS:
                if one != other:
                    with self.subTest(one=one, other=other):
                        self.assertNotIsInstance(getattr(errors, one)(), getattr(errors, other))

    def test_each_is_raised_and_caught(self):
        for name in FIELDS:
            for kind in (getattr(errors, name), errors.ThemeError, ValueError):
                with self.subTest(name=name, kind=kind), self.assertRaises(kind):
                    raise getattr(errors, name)()

    def test_each_is_defined_in_the_file(self):
        for name in list(FIELDS) + ["ThemeError"]:
            self.assertEqual(getattr(errors, name).__module__, "laterthemes.errors")


class Fields(unittest.TestCase):
    def test_by_position(self):
        for kind, field in with_field():
            for item in odd_objects():
                with self.subTest(kind=kind, item=item):
                    self.assertIs(getattr(kind(item), field), item)

    def test_by_name(self):
        for kind, field in with_field():
            for item in odd_objects():
                with self.subTest(kind=kind, item=item):
                    self.assertIs(getattr(kind(**{field: item}), field), item)

    def test_left_out(self):
        for kind, field in with_field():
            with self.subTest(kind=kind):
                self.assertIsNone(getattr(kind(), field))

    def test_a_list_that_is_changed_later(self):
        for kind, field in with_field():
            with self.subTest(kind=kind):
                item = [1, [2]]
                by_position, by_name = kind(item), kind(**{field: item})
                item.append(3)
                item[1].append(4)
                self.assertEqual(getattr(by_position, field), [1, [2, 4], 3])
                self.assertIs(getattr(by_name, field), item)

    def test_no_other_field(self):
        for name, field in FIELDS.items():
            for other in {"value", "ring", "name", "index", "claim"} - {field}:
                with self.subTest(name=name, other=other):
                    self.assertFalse(hasattr(getattr(errors, name)(), other))

    def test_without_a_field(self):
        for kind in (errors.MismatchedBooks, errors.NothingToUndo):
            self.assertIsInstance(kind(), errors.ThemeError)

    def test_two_errors_have_fields_of_their_own(self):
        one, other = errors.InvalidBook(1), errors.InvalidBook(2)
        self.assertEqual([one.value, other.value], [1, 2])
        self.assertEqual(copy.copy(errors.InvalidBook(value=3)).value, 3)
