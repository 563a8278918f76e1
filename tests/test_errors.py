import unittest

from lampward import errors

WITHOUT_FIELDS = ["ZeroBottom", "Misfit", "EmptyBox", "NotGranted", "Outside", "NoPoint", "NothingToUndo"]
WITH_FIELDS = {
    "BadGrid": (("line", 7), ("kind", "number")),
    "NoSuch": (("ab",), ("name",)),
    "Uneven": ((8,), ("bus",)),
    "BadBox": ((11,), ("number",)),
    "BadText": ((3,), ("line",)),
}


class Hierarchy(unittest.TestCase):
    def test_base_is_a_value_error(self):
        self.assertTrue(issubclass(errors.LampwardError, ValueError))

    def test_all_derive_from_the_base_and_from_no_other_one(self):
        names = WITHOUT_FIELDS + list(WITH_FIELDS)
        for name in names:
            kind = getattr(errors, name)
            self.assertTrue(issubclass(kind, errors.LampwardError), name)
            self.assertFalse(issubclass(errors.LampwardError, kind), name)
            for other in names:
                if other != name:
                    self.assertFalse(issubclass(kind, getattr(errors, other)), (name, other))


class Fields(unittest.TestCase):
    def test_fields_are_what_was_given(self):
        for name, (given, fields) in WITH_FIELDS.items():
            error = getattr(errors, name)(*given)
            self.assertEqual(tuple(getattr(error, field) for field in fields), given, name)

    def test_each_can_be_raised_and_caught_by_its_name(self):
        for name in WITHOUT_FIELDS:
            kind = getattr(errors, name)
            with self.assertRaises(kind):
                raise kind()
        for name, (given, _) in WITH_FIELDS.items():
            kind = getattr(errors, name)
            with self.assertRaises(kind):
                raise kind(*given)
