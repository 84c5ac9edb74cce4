"""[20], [4]: the error classes."""

import inspect
import unittest

from hourneeds import errors
from hourneeds.errors import NeedError
from helpers import GREAT, odd_values

SIGNATURES = {
    "Wrong": ["place"],
    "Overtaken": ["hour"],
    "NoHour": ["hour"],
    "Unlike": [],
    "NoBegin": ["hour"],
    "TooFew": ["ring"],
    "NoStep": ["step"],
    "Stuck": ["ways"],
    "Impossible": ["way"],
    "OutOf": ["least", "greatest"],
    "NoNumber": ["index"],
    "Unfit": [],
    "Never": ["ways"],
    "TooLong": ["most"],
    "NoDays": ["days"],
    "NoPace": ["fraction"],
    "NoText": [],
    "NoDeed": [],
    "Full": ["limit"],
    "Refused": ["deed"],
    "Nothing": [],
    "NoEntry": ["many"],
    "NoCommand": [],
}

CLASSES = {name: getattr(errors, name) for name in SIGNATURES}


class Errors(unittest.TestCase):
    def test_just_these_classes_stand_in_the_file(self):
        found = [name for name, thing in vars(errors).items() if inspect.isclass(thing)]
        self.assertEqual(sorted(found), sorted([*SIGNATURES, "NeedError"]))
        for name in found:
            self.assertEqual(getattr(errors, name).__module__, "hourneeds.errors")
            self.assertEqual(getattr(errors, name).__name__, name)

    def test_need_error_is_a_value_error(self):
        self.assertEqual(NeedError.__bases__, (ValueError,))
        self.assertIsInstance(NeedError(), ValueError)

    def test_each_stands_under_need_error_and_under_none_of_the_others(self):
        for name, one in CLASSES.items():
            self.assertTrue(issubclass(one, NeedError), name)
            self.assertTrue(issubclass(one, ValueError), name)
            for other_name, other in CLASSES.items():
                self.assertEqual(issubclass(one, other), name == other_name, (name, other_name))

    def test_each_can_be_raised_and_caught(self):
        for name, one in CLASSES.items():
            made = one(*SIGNATURES[name])
            for caught in (one, NeedError, ValueError):
                with self.assertRaises(caught) as context:
                    raise made
                self.assertIs(context.exception, made)

    def test_each_takes_just_its_arguments(self):
        for name, parameters in SIGNATURES.items():
            for many in range(4):
                values = ["x"] * many
                if many == len(parameters):
                    CLASSES[name](*values)
                    continue
                with self.assertRaises(TypeError, msg=(name, many)):
                    CLASSES[name](*values)

    def test_each_keeps_the_very_objects_under_the_names_of_its_signature(self):
        values = [*odd_values(), 0, -1, GREAT, -GREAT, (1, 2), [0, 2, 1], [("need", 0)]]
        for name, parameters in SIGNATURES.items():
            for at in range(len(values)):
                given = [values[at - place] for place in range(len(parameters))]
                made = CLASSES[name](*given)
                self.assertEqual(sorted(vars(made)), sorted(parameters))
                for parameter, value in zip(parameters, given):
                    self.assertIs(getattr(made, parameter), value, name)

    def test_a_list_in_an_error_is_not_copied(self):
        ring = [0, 1]
        made = errors.TooFew(ring)
        ring.append(2)
        self.assertEqual(made.ring, [0, 1, 2])


if __name__ == "__main__":
    unittest.main()
