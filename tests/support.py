"""What several tests use: a strict comparison, wrong values, and a check of errors."""

import unittest
from unittest.mock import ANY

# ANY is equal to every value, so it shows where a value is only compared with valid ones.
NO_INTEGERS = [True, False, None, "1", "", 1.0, b"1", [], [1], (), (1,), {}, {1: 1}, object(), ANY]
NO_COUNTS = NO_INTEGERS + [-1, -10 ** 39]
NO_LISTS = [None, True, 0, 3, "ab", "", b"a", {}, {"a": 1}, object(), ANY]
NO_NAMES = [
    None, True, 0, "", "A", "1a", "a b", "a-b", "a_b", "abcdefghi", " a", "a\n", b"a", ["a"], ("a",), {}, {"a": 1}, ANY,
]


def same(one, other):
    """Whether two values are equal and of the same kinds, also inside."""
    if type(one) is not type(other):
        return False
    if isinstance(one, (list, tuple)):
        return len(one) == len(other) and all(same(x, y) for x, y in zip(one, other))
    if isinstance(one, dict):
        return one.keys() == other.keys() and all(same(one[key], other[key]) for key in one)
    return one == other


class Case(unittest.TestCase):
    def same(self, found, wanted):
        self.assertTrue(same(found, wanted), f"{found!r} is not {wanted!r}")

    def refuses(self, error, attributes, call, *args, **more):
        """The call raises just this error with just these attributes."""
        with self.assertRaises(error) as caught:
            call(*args, **more)
        self.assertIs(type(caught.exception), error)
        self.same(vars(caught.exception), attributes)
