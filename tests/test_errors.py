"""oncedefaults/errors.py: each class, its base, its constructor and its attributes."""

from oncedefaults import errors
from tests.helpers import OBJECTS, Case

PART_ERRORS = {
    "BadName": ["name"], "BadParam": ["part"], "BadRow": ["at"], "BadValue": ["at"], "BadMarks": ["marks"],
    "BadOrder": ["name"], "Twice": ["name"], "Clash": ["name"], "NoBase": ["base"], "NoMark": ["mark"],
    "NoValue": ["owner", "value"], "NoDefault": ["place"], "BadText": ["at"], "BadHistory": ["at"],
    "BadCallers": ["part"], "BadWorld": ["given"], "NoWorld": ["index"], "UnlikeFaces": [], "TooMany": ["what"],
}
CALL_ERRORS = {
    "BadStep": ["given"], "NoKind": ["kind"], "NoMethod": ["name"], "TooManyArguments": ["count"], "NoOption": ["name"],
    "GivenTwice": ["name"], "Missing": ["name"], "BadArgument": ["name"], "NoBox": ["k"], "BadMark": ["mark"],
}


class Errors(Case):
    def test_bases(self):
        self.assertEqual(errors.PartError.__bases__, (ValueError,))
        self.assertEqual(errors.CallError.__bases__, (TypeError,))
        for base, names in ((errors.PartError, PART_ERRORS), (errors.CallError, CALL_ERRORS)):
            self.assertEqual(vars(base()), {})
            for name in names:
                self.assertEqual(getattr(errors, name).__bases__, (base,))

    def test_attributes_of_any_objects(self):
        for name, fields in {**PART_ERRORS, **CALL_ERRORS}.items():
            for at, thing in enumerate(OBJECTS):
                given = [OBJECTS[at - k] for k in range(len(fields))]
                by_position = getattr(errors, name)(*given)
                by_name = getattr(errors, name)(**dict(zip(fields, given)))
                for error in (by_position, by_name):
                    self.assertEqual(list(vars(error)), fields)
                    for field, part in zip(fields, given):
                        self.assertIs(getattr(error, field), part)

    def test_wrong_numbers_of_arguments(self):
        for name, fields in {**PART_ERRORS, **CALL_ERRORS}.items():
            with self.assertRaises(TypeError):
                getattr(errors, name)(*["a"] * (len(fields) - 1) if fields else ["a"], no_such="a")
