"""[20] errors."""

import unittest

from longsheet import errors

FIELDS = {
    "Wrong": ["place"], "NoColumn": ["column"], "NoRow": ["row"], "NoFit": ["place"], "Beyond": ["at"],
    "Ring": ["ring"], "NoPlan": ["length"], "NotLinear": ["address"], "NotOnce": ["cell"], "NoCell": ["address"],
    "NoInput": ["address"], "NoGoal": [], "Nothing": [], "BadEdit": [], "Stopped": ["index"],
    "Refused": ["row", "at"], "Unasked": ["at"], "NotReady": ["column"], "Stuck": ["lot"], "NoText": ["line"],
    "NoCommand": [],
}


class Errors(unittest.TestCase):
    def test_there_are_twenty_one(self):
        found = [name for name, thing in vars(errors).items() if isinstance(thing, type)]
        self.assertEqual(sorted(found), sorted(list(FIELDS) + ["SheetError"]))
        self.assertEqual(len(FIELDS), 21)

    def test_each_is_a_direct_subclass(self):
        self.assertEqual(errors.SheetError.__bases__, (ValueError,))
        for name in FIELDS:
            self.assertEqual(getattr(errors, name).__bases__, (errors.SheetError,), name)

    def test_the_very_objects_stand_as_fields(self):
        for values in ([[1], {2: 3}], [None, True], [object(), "text"], [{}, ()], [10 ** 59, errors]):
            for name, fields in FIELDS.items():
                told = values[:len(fields)]
                error = getattr(errors, name)(*told)
                self.assertEqual(sorted(vars(error)), sorted(fields))
                for field, value in zip(fields, told):
                    self.assertIs(getattr(error, field), value)

    def test_arguments_have_the_names_of_the_fields(self):
        for name, fields in FIELDS.items():
            error = getattr(errors, name)(**{field: [field] for field in fields})
            self.assertEqual([getattr(error, field) for field in fields], [[field] for field in fields])

    def test_they_take_no_other_number_of_arguments(self):
        for name, fields in FIELDS.items():
            if fields:
                with self.assertRaises(TypeError):
                    getattr(errors, name)()

    def test_they_can_be_raised_and_caught(self):
        for name, fields in FIELDS.items():
            with self.assertRaises(errors.SheetError):
                raise getattr(errors, name)(*fields)


if __name__ == "__main__":
    unittest.main()
