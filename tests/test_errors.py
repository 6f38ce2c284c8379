"""[2.1], [2.2], [2.3] and the interface's line of errors.py."""

import inspect
import unittest

from tests.things import any_objects
from waysthatcross import errors
from waysthatcross.errors import CrossError

PARAMETERS = {
    "BadBook": ["thing"],
    "BadGates": ["gates"],
    "BadWays": ["index"],
    "BadLot": ["lot"],
    "BadWay": ["way"],
    "BadGate": ["gate"],
    "NotClosed": ["one", "gate", "other"],
    "BadRooms": ["rooms"],
    "BadPlan": ["plan"],
    "BadMany": ["many"],
    "BadCut": ["cut"],
    "BadGains": ["gains"],
    "Loses": ["one", "gate", "other"],
    "BadTolls": ["tolls"],
    "BadLengths": ["lengths"],
    "BadBell": ["bell"],
    "BadSendings": ["sendings"],
    "BadStretches": ["stretches"],
    "Alone": ["way"],
    "BadPlaces": ["places"],
    "BadRoads": ["index"],
    "BadBegins": ["begins"],
    "BadEnds": ["ends"],
    "BadPairs": ["index"],
    "BadRows": ["index"],
    "BadTop": ["top"],
}


def each_error():
    """Return the classes, each with its parameters."""
    return [(getattr(errors, name), parameters) for name, parameters in PARAMETERS.items()]


class EachError(unittest.TestCase):

    def kept(self, error, parameters):
        return [getattr(error, parameter) for parameter in parameters]

    def assert_keeps(self, error, parameters, things):
        for told, thing in zip(self.kept(error, parameters), things, strict=True):
            self.assertIs(told, thing, error.__class__)

    def test_all_are_there_and_no_others(self):
        told = [name for name, thing in vars(errors).items()
                if inspect.isclass(thing) and issubclass(thing, BaseException)]
        self.assertEqual(sorted(told), sorted([*PARAMETERS, "CrossError"]))

    def test_cross_error_is_a_value_error(self):
        self.assertEqual(CrossError.__bases__, (ValueError,))
        self.assertEqual(CrossError.__module__, "waysthatcross.errors")

    def test_each_is_right_beneath_cross_error(self):
        for error, _ in each_error():
            self.assertEqual(error.__bases__, (CrossError,))
            self.assertEqual(error.__module__, "waysthatcross.errors")

    def test_none_is_caught_as_another(self):
        for error, parameters in each_error():
            made = error(*parameters)
            self.assertIsInstance(made, ValueError)
            others = [other for other in PARAMETERS if isinstance(made, getattr(errors, other))]
            self.assertEqual(others, [error.__name__])

    def test_parameters(self):
        for error, parameters in each_error():
            self.assertEqual(list(inspect.signature(error).parameters), parameters)

    def test_made_by_place_keeps_the_very_objects(self):
        for error, parameters in each_error():
            for thing in any_objects():
                things = [[thing, at] for at in range(len(parameters))]
                self.assert_keeps(error(*things), parameters, things)
                things = [thing] * len(parameters)
                self.assert_keeps(error(*things), parameters, things)

    def test_made_by_name_keeps_the_very_objects(self):
        for error, parameters in each_error():
            for thing in any_objects():
                things = [[thing, at] for at in range(len(parameters))]
                named = dict(zip(parameters, things))
                self.assert_keeps(error(**named), parameters, things)
                backwards = dict(list(named.items())[::-1])
                self.assert_keeps(error(**backwards), parameters, things)

    def test_made_by_place_and_by_name(self):
        for error, parameters in each_error():
            things = [[at] for at in range(len(parameters))]
            rest = dict(zip(parameters[1:], things[1:]))
            self.assert_keeps(error(things[0], **rest), parameters, things)

    def test_what_is_changed_later_is_so_there_too(self):
        for error, parameters in each_error():
            things = [[at, [at]] for at in range(len(parameters))]
            made = error(*things)
            for thing in things:
                thing.append("later")
                thing[1].append("within")
            self.assert_keeps(made, parameters, things)
            self.assertEqual(self.kept(made, parameters),
                             [[at, [at, "within"], "later"] for at in range(len(parameters))])

    def test_can_be_raised_and_caught(self):
        for error, parameters in each_error():
            things = [[at] for at in range(len(parameters))]
            with self.assertRaises(CrossError) as caught:
                raise error(*things)
            self.assertIs(caught.exception.__class__, error)
            self.assert_keeps(caught.exception, parameters, things)


if __name__ == "__main__":
    unittest.main()
