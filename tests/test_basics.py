import unittest
from fractions import Fraction

from surerise.basics import is_count, is_integer, is_list, is_name, is_ratio, ratio_of
from surerise.errors import InvalidInteger
from tests.support import NO_COUNTS, NO_INTEGERS, NO_NAMES, Case

FORTY = 10 ** 40 - 1


class Kinds(Case):
    def test_integer(self):
        for value in (0, 1, -1, FORTY, -FORTY):
            self.same(is_integer(value), True)
            self.same(is_integer(value=value), True)
        for value in NO_INTEGERS:
            self.same(is_integer(value), False)

    def test_count(self):
        for value in (0, 1, 2, FORTY):
            self.same(is_count(value), True)
            self.same(is_count(value=value), True)
        for value in NO_COUNTS + [-FORTY]:
            self.same(is_count(value), False)

    def test_name(self):
        for value in ("a", "z", "a0", "z9", "abcdefgh", "a1234567", "s", "counter"):
            self.same(is_name(value), True)
            self.same(is_name(value=value), True)
        for value in NO_NAMES + ["a.", "aB", "a~", "0", "abcdefghi", "a1234567b", "a\nb", "`", "{", "a/", "a:", "\xe9"]:
            self.same(is_name(value), False)

    def test_ratio(self):
        for value in ((0, 1), (1, 1), (-1, 1), (3, 2), (-3, 2), (2, 3), (FORTY, 1), (1, FORTY), (-FORTY, 10)):
            self.same(is_ratio(value), True)
            self.same(is_ratio(value=value), True)
        wrong = [
            (0, 2), (0, 0), (1, 0), (1, -1), (-1, -1), (2, 2), (4, 2), (6, 4), (-6, 4), (True, 1), (1, True),
            (False, 1), (0, True), [1, 1], [0, 1], (1,), (1, 1, 1), ((1, 1), 1), ("1", 1), (1, None), (1.0, 1),
            (10 * FORTY, 10), ([], {}), "ab", {1: 1, 2: 2}, 1,
        ]
        for value in wrong + NO_INTEGERS:
            self.same(is_ratio(value), False)

    def test_list(self):
        for value in ([], (), [1], ("a",)):
            self.same(is_list(value), True)
        for value in (None, "ab", {}, 3, {1}, range(2)):
            self.same(is_list(value), False)


class Ratios(Case):
    def test_values(self):
        for numerator in range(-12, 13):
            for denominator in list(range(-12, 0)) + list(range(1, 13)):
                found = ratio_of(numerator, denominator)
                wanted = Fraction(numerator, denominator)
                self.same(found, (wanted.numerator, wanted.denominator))
                self.assertTrue(is_ratio(found))

    def test_default_and_names(self):
        self.same(ratio_of(6), (6, 1))
        self.same(ratio_of(0), (0, 1))
        self.same(ratio_of(numerator=-4), (-4, 1))
        self.same(ratio_of(denominator=-4, numerator=6), (-3, 2))
        self.same(ratio_of(6 * FORTY, -4 * FORTY), (-3, 2))
        self.same(ratio_of(0, -FORTY), (0, 1))

    def test_refused(self):
        for value in NO_INTEGERS:
            self.refuses(InvalidInteger, {"value": value}, ratio_of, value)
            self.refuses(InvalidInteger, {"value": value}, ratio_of, value, 0)
            self.refuses(InvalidInteger, {"value": value}, ratio_of, value, "b")
            self.refuses(InvalidInteger, {"value": value}, ratio_of, 3, value)
        for value in (0, 1, -5):
            self.refuses(InvalidInteger, {"value": 0}, ratio_of, value, 0)


if __name__ == "__main__":
    unittest.main()
