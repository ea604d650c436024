import unittest

from frugaltape import errors

FIELDS = {
    "TapeError": None,
    "InvalidWidth": ("value",),
    "InvalidVectors": ("position",),
    "InvalidSpace": ("value",),
    "InvalidProgram": ("part",),
    "InvalidValues": ("value",),
    "InvalidInputs": ("position",),
    "InvalidCount": ("value",),
    "InvalidChoices": ("position",),
    "InvalidAddress": ("value",),
    "InvalidPaper": (),
    "InvalidExpression": ("value",),
    "InvalidStep": ("value",),
    "InvalidValue": ("value",),
    "InvalidPieces": (),
    "InvalidSteps": ("position",),
    "InvalidNames": ("value",),
    "InvalidLine": (),
    "ParseError": ("line",),
    "WidthMismatch": ("first", "second"),
    "Busy": ("depth",),
    "Unfitting": ("equation",),
    "Dependent": ("address",),
    "DifferentPrograms": (),
    "Edited": ("step",),
    "NotDone": ("step",),
    "UnknownName": ("name",),
    "UnknownBreakpoint": ("address",),
    "UnknownStep": ("step",),
    "UnknownRow": ("row",),
    "NoMachine": (),
    "NothingToUndo": (),
    "RunError": ("address",),
    "Inexact": ("address",),
    "ZeroDivisor": ("address",),
    "NoInput": ("address",),
    "TooLarge": ("address",),
    "TooDeep": ("address",),
    "AtEnd": ("step",),
    "AtStart": (),
    "StepLimit": ("limit",),
}
BASES = {
    "TapeError": ValueError,
    "UnknownName": KeyError,
    "UnknownBreakpoint": LookupError,
    "UnknownStep": LookupError,
    "UnknownRow": LookupError,
    "NoMachine": LookupError,
    "NothingToUndo": LookupError,
    "RunError": ArithmeticError,
    "Inexact": errors.RunError,
    "ZeroDivisor": errors.RunError,
    "NoInput": errors.RunError,
    "TooLarge": errors.RunError,
    "TooDeep": errors.RunError,
    "AtEnd": IndexError,
    "AtStart": IndexError,
    "StepLimit": OverflowError,
}


class ErrorsTest(unittest.TestCase):
    def test_exactly_the_listed_classes_are_defined(self):
        defined = {name for name, value in vars(errors).items() if isinstance(value, type)}
        self.assertEqual(defined, set(FIELDS))

    def test_each_class_has_exactly_its_base(self):
        for name in FIELDS:
            base = BASES.get(name, errors.TapeError)
            self.assertEqual(getattr(errors, name).__bases__, (base,), name)
            self.assertEqual(getattr(errors, name).__module__, "frugaltape.errors")

    def test_fields_keep_the_objects_themselves(self):
        for name, fields in FIELDS.items():
            told = [["wrong", name, field] for field in fields or ()]
            error = getattr(errors, name)(*told)
            for field, value in zip(fields or (), told):
                self.assertIs(getattr(error, field), value, name)

    def test_arguments_can_be_named(self):
        for name, fields in FIELDS.items():
            told = {field: [field] for field in fields or ()}
            error = getattr(errors, name)(**told)
            for field, value in told.items():
                self.assertIs(getattr(error, field), value, name)

    def test_no_other_number_of_arguments_is_taken(self):
        for name, fields in FIELDS.items():
            if fields:
                with self.assertRaises(TypeError):
                    getattr(errors, name)(*[0] * (len(fields) + 1))
                with self.assertRaises(TypeError):
                    getattr(errors, name)()

    def test_a_value_that_cannot_be_written_out_is_kept(self):
        value = 10**5000
        self.assertIs(errors.InvalidWidth(value).value, value)


if __name__ == "__main__":
    unittest.main()
