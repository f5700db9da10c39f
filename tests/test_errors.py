"""The errors: their fields and their classes."""

import unittest

from quietedition import errors
from quietedition.manners import Manners

FIELDS = {
    "BadText": ("row", "cause"),
    "BadClient": ("at", "row", "cause"),
    "BadManner": ("name",),
    "BadMoment": ("moment",),
    "NotAssembled": ("unit", "name"),
    "NotLinked": ("cause", "unit", "name"),
    "NotLoaded": ("cause", "unit", "name"),
    "BadRenaming": ("at",),
    "TooMany": ("what",),
    "BadHouse": ("at",),
    "BadMend": ("at", "cause"),
}


class Errors(unittest.TestCase):
    def test_fields_by_position_and_by_name(self):
        for name, fields in FIELDS.items():
            made = getattr(errors, name)
            values = [f"part{k}" for k in range(len(fields))]
            for error in (made(*values), made(**dict(zip(fields, values)))):
                self.assertEqual([getattr(error, field) for field in fields], values, name)

    def test_each_is_a_quiet_error_and_of_no_other_class(self):
        classes = {name: getattr(errors, name) for name in FIELDS}
        for name, fields in FIELDS.items():
            error = classes[name](*([1] * len(fields)))
            self.assertIsInstance(error, errors.QuietError)
            self.assertIsInstance(error, ValueError)
            self.assertEqual(classes[name].__bases__, (errors.QuietError,))
            self.assertEqual([other for other in classes if isinstance(error, classes[other])], [name])
        self.assertEqual(errors.QuietError.__bases__, (ValueError,))

    def test_any_value_is_kept_and_copied(self):
        for value in (None, True, 7, "x", [1, [2, (3, [4])]], ("a", [])):
            self.assertEqual(errors.BadManner(value).name, value)
            self.assertEqual(errors.BadMoment(value).moment, value)
        self.assertIs(errors.BadMoment(True).moment, True)
        inner = [1]
        error = errors.BadMoment(("x", [inner]))
        inner.append(2)
        self.assertEqual(error.moment, ("x", [[1]]))
        wrong = ["asks"]
        with self.assertRaises(errors.BadManner) as caught:
            Manners([wrong])
        wrong.append("free")
        self.assertEqual(caught.exception.name, ["asks"])


if __name__ == "__main__":
    unittest.main()
