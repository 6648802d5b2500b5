import unittest

from resampler import errors, ratios
from tests.samples import all_values

FIELDS = {
    "ResampleError": {
        "InvalidName": "value", "InvalidInteger": "value", "InvalidRatio": "value",
        "InvalidVariables": "value", "InvalidEvents": "value", "InvalidProblem": "value",
        "InvalidAssignment": "value", "InvalidTapes": "value", "InvalidSampler": "value",
        "InvalidChoice": "value", "InvalidPieces": "value", "InvalidHistory": "index",
        "InvalidHeap": "value", "InvalidLengths": "value", "InvalidGraph": "value",
        "InvalidProbabilities": "value", "InvalidNames": "value", "InvalidOrder": "value",
        "InvalidWeights": "value", "InvalidTable": "value", "InvalidCertificate": "value",
        "InvalidTree": "value", "InvalidText": "value", "InvalidLine": "index",
        "InvalidCommand": "value", "DuplicateName": "name", "Mismatch": "value", "TooLarge": "count",
    },
    "MissingError": {
        "UnknownVariable": "name", "UnknownEvent": "name", "UnknownName": "name", "NotFound": "value",
    },
    "StateError": {
        "NotOccurring": "event", "TapeExhausted": "variable", "NotExclusive": "witness",
        "NothingToUndo": None, "SamplerBusy": None,
    },
}
PYTHON_BASES = {"ResampleError": ValueError, "MissingError": KeyError, "StateError": LookupError}


def package_classes():
    found = [value for value in vars(errors).values() if isinstance(value, type)]
    return found + [ratios.Ratio]


def rows():
    """Yield each exception class with the name of its base and its field."""
    for base, fields in FIELDS.items():
        for name, field in fields.items():
            yield getattr(errors, name), getattr(errors, base), field


def create(kind, field):
    return kind() if field is None else kind("some")


class Bases(unittest.TestCase):
    def test_bases_take_one_string(self):
        for name, python_base in PYTHON_BASES.items():
            base = getattr(errors, name)
            self.assertEqual(base.__bases__, (python_base,))
            error = base("what went wrong")
            self.assertIn("what went wrong", str(error))
            self.assertIsInstance(repr(error), str)
            for other in package_classes():
                self.assertEqual(isinstance(error, other), other is base)

    def test_bases_are_raised_and_caught(self):
        for name, python_base in PYTHON_BASES.items():
            base = getattr(errors, name)
            for caught in (base, python_base):
                with self.assertRaises(caught):
                    raise base("what went wrong")


class Classes(unittest.TestCase):
    def test_all_classes_of_the_interface_exist(self):
        named = set(FIELDS).union(*FIELDS.values())
        self.assertEqual({kind.__name__ for kind in package_classes()}, named | {"Ratio"})
        self.assertEqual(len(named), 3 + 28 + 4 + 5)

    def test_each_is_directly_under_its_base(self):
        for kind, base, field in rows():
            self.assertEqual(kind.__bases__, (base,))

    def test_instances(self):
        for kind, base, field in rows():
            error = create(kind, field)
            self.assertIsInstance(error, PYTHON_BASES[base.__name__])
            for other in package_classes():
                self.assertEqual(isinstance(error, other), other in (kind, base), (kind, other))

    def test_raised_and_caught(self):
        for kind, base, field in rows():
            for caught in (kind, base, PYTHON_BASES[base.__name__]):
                error = create(kind, field)
                with self.assertRaises(caught) as context:
                    raise error
                self.assertIs(context.exception, error)

    def test_bases_do_not_catch_the_others(self):
        for kind, base, field in rows():
            for other in FIELDS:
                if other != base.__name__:
                    self.assertFalse(issubclass(kind, getattr(errors, other)))


class Fields(unittest.TestCase):
    def test_field_is_the_very_object(self):
        for kind, base, field in rows():
            for value in all_values() if field else []:
                self.assertIs(getattr(kind(value), field), value)
                self.assertIs(getattr(kind(**{field: value}), field), value)

    def test_field_follows_an_object_that_grows(self):
        for kind, base, field in rows():
            for value in [[], {}] if field else []:
                error = kind(value)
                text = str(error)
                if isinstance(value, list):
                    value.extend([1, [2]])
                else:
                    value["a"] = [1]
                self.assertIs(getattr(error, field), value)
                self.assertEqual(str(error), text)

    def test_errors_of_one_class_share_nothing(self):
        one, other = errors.InvalidName("a"), errors.InvalidName("b")
        self.assertEqual([one.value, other.value], ["a", "b"])

    def test_text_of_any_error(self):
        for kind, base, field in rows():
            for value in [*all_values(), 10 ** 5000] if field else []:
                self.assertIsInstance(str(kind(value)), str)
                self.assertIsInstance(repr(kind(value)), str)

    def test_one_argument_where_there_is_a_field(self):
        for kind, base, field in rows():
            if field:
                with self.assertRaises(TypeError):
                    kind()
                with self.assertRaises(TypeError):
                    kind("a", "b")

    def test_no_argument_where_there_is_no_field(self):
        for kind in (errors.NothingToUndo, errors.SamplerBusy):
            self.assertIsInstance(str(kind()), str)
            with self.assertRaises(TypeError):
                kind("a")


if __name__ == "__main__":
    unittest.main()
