"""What several tests need."""

import inspect
import unittest


def nested(depth):
    """A tuple in a list in a tuple .., so many deep."""
    value = ()
    for k in range(depth - 1):
        value = [value] if k % 2 else (value,)
    return value


# Values of every kind that an argument may be, wherever an error is told for it.
ANYTHING = [
    None, True, False, 0, 1, -1, 7, 10**59, "", " ", "g", "A", "ab", "ba", "aa", "abc", "abc ab3\n", "x" * 8000,
    b"a", b"", (), ("a",), ("a", "b", 3), [], ["a"], {}, {"a": 1}, set(), {"a"}, frozenset(), range(3),
    object(), object, int, str, tuple, len, lambda: None, NotImplemented, ..., nested(20), ValueError("a"),
]


def anything_but(*right):
    """The values of every kind without these."""
    return [value for value in ANYTHING if not any(type(value) is type(x) and value == x for x in right)]


class Case(unittest.TestCase):
    def refuses(self, error, attributes, call, *args, **named):
        """The call raises just this error with just these attributes."""
        with self.assertRaises(error) as caught:
            call(*args, **named)
        self.assertIs(type(caught.exception), error)
        told = vars(caught.exception)
        self.assertEqual(set(told), set(attributes))
        for name, value in attributes.items():
            if value is not told[name]:
                self.assertIs(type(told[name]), type(value))
                self.assertEqual(told[name], value)

    def is_listed(self, thing, module, parameters):
        """It is defined in this module and has these parameters, all by position or by name."""
        self.assertEqual(thing.__module__, module)
        told = inspect.signature(thing).parameters
        self.assertEqual(list(told), parameters)
        for parameter in told.values():
            self.assertIs(parameter.kind, inspect.Parameter.POSITIONAL_OR_KEYWORD)
            self.assertIs(parameter.default, inspect.Parameter.empty)
