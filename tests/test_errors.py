"""[0.2] and errors.py: the classes, their base classes, and what they carry."""

import unittest

from tests.support import EDGES
from twicestep import errors
from twicestep.errors import StepError

NAMES = ["BadNumber", "OtherRoot", "BadPolynomial", "BadRule", "BadPlace", "BadCount", "BadFormula", "NoFormula",
         "BadClass", "BadGrowth", "BadLine", "ZeroMiddle", "BadShift", "BadFactor", "BadParameter"]


class Errors(unittest.TestCase):
    def classes(self):
        self.assertEqual(len(NAMES), 15)
        return [getattr(errors, name) for name in NAMES]

    def test_base_classes_are_just_those_stated(self):
        self.assertEqual(StepError.__bases__, (Exception,))
        for kind in self.classes():
            self.assertEqual(kind.__bases__, (StepError,), kind)

    def test_names_and_place(self):
        for name, kind in zip(NAMES, self.classes()):
            self.assertEqual(kind.__name__, name)
            self.assertEqual(kind.__module__, "twicestep.errors")
        self.assertEqual(StepError.__module__, "twicestep.errors")

    def test_each_is_a_step_error_and_of_no_other_class(self):
        for kind in self.classes():
            made = kind(1)
            self.assertIsInstance(made, StepError)
            self.assertEqual([other for other in self.classes() if isinstance(made, other)], [kind])

    def test_thing_by_position_and_by_name(self):
        for kind in self.classes():
            for thing in EDGES + [object(), 1.5, {1}, b"x", StepError]:
                self.assertIs(kind(thing).thing, thing)
                self.assertIs(kind(thing=thing).thing, thing)

    def test_things_are_kept_apart(self):
        for kind in self.classes():
            one, other = kind((1, 2)), kind(thing=[3])
            self.assertEqual((one.thing, other.thing), ((1, 2), [3]))

    def test_caught_as_step_error_and_by_name(self):
        for kind in self.classes():
            for caught in (kind, StepError):
                with self.assertRaises(caught) as held:
                    raise kind("why")
                self.assertEqual(held.exception.thing, "why")


if __name__ == "__main__":
    unittest.main()
