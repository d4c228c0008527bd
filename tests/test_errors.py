import unittest

from enoughtests import errors
from enoughtests.orders import Order

ATTRIBUTES = {
    "InvalidSize": "value", "InvalidWord": "value", "InvalidRow": "value", "InvalidChain": "value",
    "InvalidPairs": "value", "InvalidPair": "value", "Ring": "lines", "NotOrder": "value", "NotFitting": "value",
    "InvalidSteps": "value", "InvalidStep": "value", "InvalidLine": "value", "InvalidLines": "value",
    "NotNetwork": "value", "NoStep": "index", "InvalidFirst": "value", "InvalidRank": "value", "SortedWord": "word",
    "InvalidTests": "value", "UnlikeSizes": "sizes", "TooLarge": "value", "InvalidShape": "value",
    "InvalidNumber": "value", "InvalidSizes": "value", "InvalidText": "value", "InvalidName": "value",
    "NameTaken": "name", "UnknownName": "name", "InvalidThing": "value", "WrongKind": "name",
    "InvalidLineOfText": "value",
}


def any_values():
    return [None, True, False, 0, -7, 10 ** 29, "", "01", "a\nb", [], [0, [1]], (), (2, 1), {}, {"a": [1], 2: None},
            Order(2), [Order(3)], errors.NothingToUndo()]


class Point13(unittest.TestCase):
    def test_the_exceptions_are_those_of_the_interface(self):
        found = {name for name, thing in vars(errors).items() if isinstance(thing, type)}
        self.assertEqual(found, {*ATTRIBUTES, "SorterError", "NothingToUndo"})

    def test_each_exception_is_directly_below_sorter_error(self):
        self.assertEqual(errors.SorterError.__bases__, (ValueError,))
        for name in [*ATTRIBUTES, "NothingToUndo"]:
            with self.subTest(name):
                self.assertEqual(getattr(errors, name).__bases__, (errors.SorterError,))
                self.assertEqual(getattr(errors, name).__module__, "enoughtests.errors")

    def test_an_exception_keeps_the_very_value_by_position(self):
        for name, attribute in ATTRIBUTES.items():
            for value in any_values():
                with self.subTest(name, value=value):
                    self.assertIs(getattr(getattr(errors, name)(value), attribute), value)

    def test_an_exception_keeps_the_very_value_by_name(self):
        for name, attribute in ATTRIBUTES.items():
            for value in any_values():
                with self.subTest(name, value=value):
                    self.assertIs(getattr(getattr(errors, name)(**{attribute: value}), attribute), value)

    def test_an_exception_keeps_nothing_else(self):
        for name, attribute in ATTRIBUTES.items():
            with self.subTest(name):
                self.assertEqual(list(vars(getattr(errors, name)(5))), [attribute])
        self.assertEqual(vars(errors.NothingToUndo()), {})

    def test_an_exception_needs_its_value(self):
        for name in ATTRIBUTES:
            with self.subTest(name):
                with self.assertRaises(TypeError):
                    getattr(errors, name)()

    def test_an_exception_is_caught_as_a_value_error_and_can_be_shown(self):
        for name in ATTRIBUTES:
            for value in any_values():
                with self.subTest(name, value=value):
                    with self.assertRaises(ValueError) as caught:
                        raise getattr(errors, name)(value)
                    self.assertIsInstance(str(caught.exception), str)
        with self.assertRaises(errors.SorterError):
            raise errors.NothingToUndo()


if __name__ == "__main__":
    unittest.main()
