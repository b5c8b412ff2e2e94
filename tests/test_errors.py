import unittest

from surerise import errors
from tests.support import Case

PARAMETERS = {
    "RiseError": {
        "InvalidInteger": ["value"], "InvalidName": ["value"], "InvalidCounters": ["value"],
        "InvalidGroups": ["value"], "InvalidGroup": ["position"], "SameGroup": ["name", "other"],
        "CrossingGroups": ["name", "other"], "TakenName": ["name"], "InvalidNames": ["value"],
        "InvalidLooks": ["value"], "InvalidLook": ["value"], "InvalidGap": ["value"], "OtherBook": [],
        "OtherLength": ["many"], "NoJoin": [], "AboveCeiling": ["name", "look"], "EmptyDraft": [],
        "InvalidText": ["line"], "InvalidLetter": ["value"], "ImpossibleLetter": ["position"],
        "InvalidQuestion": ["value"], "TooShort": ["needed"], "InvalidWalk": ["value"],
        "InvalidFact": ["value"], "InvalidState": ["value"], "BelowZero": ["found"], "ZeroBound": [],
        "InvalidSeries": ["name"], "Entangled": ["name"], "InvalidClaim": ["value"],
        "InvalidLine": ["value"], "InvalidThing": ["value"], "CommandFailed": ["position"],
    },
    "MissingError": {"UnknownName": ["value"], "NothingToUndo": []},
    "LimitError": {"TooMany": ["what", "limit"]},
}
BUILTIN = {"RiseError": ValueError, "MissingError": LookupError, "LimitError": ArithmeticError}
VALUES = [None, True, 0, 10 ** 40, "a", "", [1, [2]], ("a",), {"a": [1]}, object(), ValueError("x")]


def all_errors():
    for above, classes in PARAMETERS.items():
        for name, parameters in classes.items():
            yield getattr(errors, above), getattr(errors, name), parameters


class Errors(Case):
    def test_made_by_position_and_by_name(self):
        for _, error, parameters in all_errors():
            for shift in range(len(VALUES)):
                values = [VALUES[(shift + k) % len(VALUES)] for k in range(len(parameters))]
                wanted = dict(zip(parameters, values))
                for made in (error(*values), error(**wanted)):
                    self.assertEqual(list(vars(made)), parameters)
                    for name in wanted:
                        self.assertIs(getattr(made, name), wanted[name])

    def test_takes_no_other_number_of_values(self):
        for _, error, parameters in all_errors():
            if parameters:
                self.assertRaises(TypeError, error)
                self.assertRaises(TypeError, error, *range(len(parameters) + 1))

    def test_classes_above(self):
        own = [name for name in vars(errors) if isinstance(getattr(errors, name), type)]
        self.assertEqual(sorted(own), sorted(list(PARAMETERS) + [n for c in PARAMETERS.values() for n in c]))
        for above, error, _ in all_errors():
            builtin = BUILTIN[above.__name__]
            self.assertEqual(error.__mro__[1:], (above,) + builtin.__mro__)

    def test_base_classes(self):
        for name, builtin in BUILTIN.items():
            self.assertEqual(getattr(errors, name).__bases__, (builtin,))


if __name__ == "__main__":
    unittest.main()
