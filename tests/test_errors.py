"""[0.15], [0.16]: the errors."""

import unittest

from openlimit import errors

WITH_MESSAGE = (
    "InvalidMachine", "InvalidWord", "InvalidRun", "InvalidRow", "InvalidTable", "InvalidRecipe", "InvalidWritten",
    "InvalidPattern", "InvalidOperation", "ParseError", "InvalidCommand",
)
WITH_VALUE = {
    "UnknownName": (KeyError, "name"),
    "InvalidNumber": (IndexError, "value"),
    "TooLarge": (OverflowError, "limit"),
    "Unlimited": (ArithmeticError, "paper"),
    "NothingToUndo": (LookupError, "many"),
    "Broken": (RuntimeError, "name"),
}
ALL = ("LimitError",) + WITH_MESSAGE + tuple(WITH_VALUE)


def own_classes(error):
    """Return the names of all classes of the package to which the error belongs."""
    return {name for name in ALL if isinstance(error, getattr(errors, name))}


class MessageTests(unittest.TestCase):
    def test_limit_error(self):
        self.assertEqual(errors.LimitError.__bases__, (ValueError,))
        with self.assertRaises(ValueError) as caught:
            raise errors.LimitError("too much\nof it")
        self.assertEqual(str(caught.exception), "too much\nof it")
        self.assertEqual(own_classes(caught.exception), {"LimitError"})

    def test_derived_ones(self):
        for name in WITH_MESSAGE:
            cls = getattr(errors, name)
            with self.subTest(name):
                self.assertEqual(cls.__name__, name)
                self.assertEqual(cls.__bases__, (errors.LimitError,))
                for expected in (cls, errors.LimitError, ValueError):
                    for message in ("", "a", "not 'this'\nbut \"that\""):
                        with self.assertRaises(expected) as caught:
                            raise cls(message)
                        self.assertEqual(str(caught.exception), message)
                self.assertEqual(own_classes(cls("a")), {"LimitError", name})


class ValueTests(unittest.TestCase):
    def test_classes(self):
        for name, (base, _) in WITH_VALUE.items():
            cls = getattr(errors, name)
            with self.subTest(name):
                self.assertEqual(cls.__bases__, (base,))
                with self.assertRaises(base) as caught:
                    raise cls(1)
                self.assertEqual(own_classes(caught.exception), {name})
                self.assertNotIsInstance(cls(1), errors.LimitError)

    def test_values(self):
        values = (0, True, None, "p", "a\nb", 10 ** 39, -1, (), ("never", "b"), [1, [2]], {"a": {0: ()}})
        for name, (_, attribute) in WITH_VALUE.items():
            for value in values:
                with self.subTest(name, value=value):
                    with self.assertRaises(getattr(errors, name)) as caught:
                        raise getattr(errors, name)(value)
                    self.assertIs(getattr(caught.exception, attribute), value)
                    self.assertIsInstance(str(caught.exception), str)

    def test_one_value(self):
        for name in WITH_VALUE:
            with self.subTest(name):
                self.assertRaises(TypeError, getattr(errors, name))
                self.assertRaises(TypeError, getattr(errors, name), 1, 2)


class ModuleTests(unittest.TestCase):
    def test_all_are_there_and_no_others(self):
        found = {name for name, value in vars(errors).items() if isinstance(value, type)}
        self.assertEqual(found, set(ALL))
        for name in ALL:
            self.assertEqual(getattr(errors, name).__module__, "openlimit.errors")
