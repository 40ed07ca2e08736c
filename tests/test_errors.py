import unittest

from helpers import VALUES, Case
from mostcalls import errors

BASES = (ValueError, LookupError, OverflowError, RuntimeError)
CLASSES = {
    ValueError: {
        'InvalidName': ['value'], 'InvalidPolicy': ['field'], 'InvalidPolicies': ['number'],
        'InvalidServices': ['number'], 'InvalidPart': ['service', 'place'], 'InvalidText': ['line'],
        'InvalidChoices': ['value'], 'InvalidChoice': ['path'], 'InvalidNumber': ['value'], 'InvalidRows': ['value'],
        'InvalidTable': ['value'], 'InvalidMeasure': ['value'], 'InvalidLane': ['field'], 'InvalidState': ['value'],
        'InvalidStep': ['value'], 'InvalidLine': ['field'], 'InvalidOffer': ['number'], 'InvalidWish': ['number'],
        'InvalidQuestion': ['word'], 'InvalidCommand': ['word'],
    },
    LookupError: {'UnknownName': ['value']},
    OverflowError: {'TooLong': ['service'], 'LimitExceeded': ['most']},
    RuntimeError: {'NothingToUndo': [], 'NothingToRedo': [], 'NoTrial': [], 'NoSystem': []},
}
ROWS = [(base, name, fields) for base in CLASSES for name, fields in CLASSES[base].items()]


class ErrorsTest(Case):
    def test_there_are_all_classes(self):
        self.assertEqual(len(ROWS), 27)
        for _, name, _ in ROWS:
            with self.subTest(name):
                self.assertEqual(getattr(errors, name).__name__, name)
                self.assertEqual(getattr(errors, name).__module__, 'mostcalls.errors')

    def test_each_has_just_one_base(self):
        for base, name, _ in ROWS:
            for other in BASES:
                with self.subTest(name, base=other):
                    self.assertIs(issubclass(getattr(errors, name), other), other is base)

    def test_no_class_is_a_subclass_of_another(self):
        for _, name, _ in ROWS:
            for _, other, _ in ROWS:
                with self.subTest(name, other=other):
                    is_below = issubclass(getattr(errors, name), getattr(errors, other))
                    self.assertIs(is_below, name == other)

    def test_fields_by_position(self):
        for _, name, fields in ROWS:
            told = [object() for _ in fields]
            error = getattr(errors, name)(*told)
            with self.subTest(name):
                self.assertEqual(sorted(vars(error)), sorted(fields))
                for field, value in zip(fields, told):
                    self.assertIs(getattr(error, field), value)

    def test_fields_by_name(self):
        for _, name, fields in ROWS:
            told = {field: object() for field in reversed(fields)}
            error = getattr(errors, name)(**told)
            with self.subTest(name):
                for field in fields:
                    self.assertIs(getattr(error, field), told[field])

    def test_any_value_is_stored_unchanged(self):
        for _, name, fields in ROWS:
            for value in VALUES:
                error = getattr(errors, name)(*[value for _ in fields])
                str(error)
                for field in fields:
                    self.assertIs(getattr(error, field), value)

    def test_each_can_be_raised_and_caught_by_its_base(self):
        for base, name, fields in ROWS:
            with self.subTest(name), self.assertRaises(base):
                raise getattr(errors, name)(*fields)


if __name__ == '__main__':
    unittest.main()
