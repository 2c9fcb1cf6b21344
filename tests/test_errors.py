"""Points 10 and 21: the error classes."""

import inspect

from onewaybits import errors
from tests.helper import PointTest

INVALID = [
    "InvalidOctets", "InvalidCount", "InvalidNumber", "InvalidMask", "InvalidOp", "InvalidBlock", "InvalidPage",
    "InvalidShape", "InvalidImage", "InvalidData", "InvalidRecord", "InvalidPath", "InvalidDeed", "InvalidLine",
    "InvalidScript", "InvalidTree", "InvalidChip", "InvalidRecords", "InvalidName", "InvalidPlans",
]
FURTHER = {"PowerCut": "op", "TooMany": "count", "NoThing": "name"}
BARE = ["NotReady", "NoRoom", "NothingToUndo"]
ANY_VALUES = [None, True, 0, -5, 2 ** 5000, "", "a%s\n", [], [1, [2]], (), {"a": [1]}, object()]


class ErrorsTest(PointTest):

    def test_21_the_classes_are_those_of_the_interface(self):
        defined = [name for name, value in vars(errors).items() if inspect.isclass(value)]
        self.assertEqual(sorted(defined), sorted(["FlashError"] + INVALID + list(FURTHER) + BARE))

    def test_10_each_class_is_a_direct_heir_of_flash_error(self):
        self.assertTrue(issubclass(errors.FlashError, ValueError))
        for name in INVALID + list(FURTHER) + BARE:
            self.assertEqual(getattr(errors, name).__bases__, (errors.FlashError,), name)

    def test_21_each_class_is_defined_in_its_file(self):
        for name in ["FlashError"] + INVALID + list(FURTHER) + BARE:
            self.assertEqual(getattr(errors, name).__module__, "onewaybits.errors")

    def check_attribute(self, name, attribute):
        error_class = getattr(errors, name)
        for value in ANY_VALUES:
            for error in (error_class(value), error_class(**{attribute: value})):
                self.assertEqual(list(vars(error)), [attribute])
                self.assertIs(getattr(error, attribute), value)

    def test_10_invalid_errors_have_the_one_attribute_given(self):
        for name in INVALID:
            self.check_attribute(name, "given")

    def test_10_further_errors_have_the_told_attribute(self):
        for name, attribute in FURTHER.items():
            self.check_attribute(name, attribute)

    def test_10_three_errors_have_no_attribute(self):
        for name in BARE:
            self.assertEqual(vars(getattr(errors, name)()), {})

    def test_10_an_error_tells_of_nothing_but_its_class(self):
        with self.assertRaises(errors.NoThing) as caught:
            raise errors.NoThing(name=["a"])
        self.assertEqual(caught.exception.name, ["a"])
        self.assertNotIsInstance(caught.exception, errors.InvalidName)
