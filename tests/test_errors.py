"""[c4]: the error classes and their fields."""

import unittest

from latestart import errors

FIELDS = {
    "BillFault": ("line", "place", "word"),
    "BadBooks": ("word",),
    "BadPlan": ("at",),
    "NoPlan": (),
    "NoSuchItem": ("name",),
    "NoSuchOrder": ("number",),
    "InvalidBytes": ("at",),
    "NothingToUndo": (),
    "TooMany": ("limit",),
}

VALUES = {"line": 3, "place": 7, "word": "end", "at": 4, "name": "wheel", "number": 99, "limit": 12}


class ErrorClasses(unittest.TestCase):
    def test_the_base_class_stands_directly_below_value_error(self):
        self.assertEqual(errors.PlanError.__bases__, (ValueError,))

    def test_each_class_stands_directly_below_the_base_class(self):
        for name in FIELDS:
            with self.subTest(name=name):
                self.assertEqual(getattr(errors, name).__bases__, (errors.PlanError,))

    def test_there_are_no_other_classes(self):
        classes = {name for name, value in vars(errors).items() if isinstance(value, type)}
        self.assertEqual(classes, {"PlanError", *FIELDS})

    def test_the_classes_are_defined_in_this_file(self):
        for name in ("PlanError", *FIELDS):
            with self.subTest(name=name):
                self.assertEqual(getattr(errors, name).__module__, "latestart.errors")


class ErrorFields(unittest.TestCase):
    def test_the_arguments_are_the_fields_in_order(self):
        for name, fields in FIELDS.items():
            with self.subTest(name=name):
                error = getattr(errors, name)(*[VALUES[field] for field in fields])
                self.assertEqual(vars(error), {field: VALUES[field] for field in fields})

    def test_no_argument_too_few_or_too_many(self):
        for name, fields in FIELDS.items():
            if fields:
                values = [VALUES[field] for field in fields]
                for wrong in (values[:-1], values + [0]):
                    with self.subTest(name=name, wrong=wrong), self.assertRaises(TypeError):
                        getattr(errors, name)(*wrong)

    def test_each_is_raised_and_caught_as_its_own_class_and_as_the_base_class(self):
        for name, fields in FIELDS.items():
            made = getattr(errors, name)
            for caught in (made, errors.PlanError, ValueError):
                with self.subTest(name=name, caught=caught):
                    with self.assertRaises(caught) as context:
                        raise made(*[VALUES[field] for field in fields])
                    self.assertIs(context.exception.__class__, made)

    def test_the_base_class_is_not_one_of_those_below_it(self):
        for name in FIELDS:
            with self.subTest(name=name):
                self.assertFalse(isinstance(errors.PlanError(), getattr(errors, name)))


if __name__ == "__main__":
    unittest.main()
