import copy
import random
import unittest

from surerise.books import Book
from surerise.errors import InvalidGap, InvalidInteger, InvalidLook, InvalidLooks, NoJoin, OtherBook, OtherLength
from surerise.errors import UnknownName
from surerise.rows import Row
from tests.support import NO_COUNTS, NO_LISTS, NO_NAMES, Case

BOOK = Book(["a", "b"], [("s", ["a", "b"])])
WIDE = Book(["d", "c", "b", "a"], [("t", ["a", "b", "c"]), ("s", ["a", "c"])])
BIG = 10 ** 25


def small_row():
    return Row(BOOK, [[9, 5], [1, 6], [1, 6], [4, 0]])


class Readings(Case):
    def test_example(self):
        row = Row(BOOK, [[9, 5], [1, 6]])
        found = [row.reading("s", 0), row["b", 1], row.falls("s", 1), row.step("s", 1), row.step("b", 1)]
        self.same(found, [14, 6, True, 7, 1])
        self.same((2 * row).looks(), [[18, 10], [2, 12]])
        self.same((row + row) == row * 2, True)
        self.same(row.then(Row(BOOK, [[1, 6], [4, 0]])).rise("s", 0, 2), 11)

    def test_looks_and_sizes(self):
        for looks in ([[0, 0]], [[9, 5], [1, 6]], [[1, 2]] * 7):
            row = Row(BOOK, looks)
            self.same(row.looks(), looks)
            self.same(len(row), len(looks))
            self.same(row.gaps, len(looks) - 1)
            self.same(Row(book=BOOK, looks=tuple(tuple(look) for look in looks)).looks(), looks)
        self.assertEqual(small_row().book, BOOK)

    def test_readings_follow_the_counters_of_the_book(self):
        row = Row(WIDE, [[1, 10, 100, 1000], [2, 20, 200, BIG]])
        wanted = {"d": 1, "c": 10, "b": 100, "a": 1000, "s": 1010, "t": 1110}
        for name in wanted:
            self.same(row.reading(name, 0), wanted[name])
            self.same(row[name, 0], wanted[name])
        self.same(row.reading(look=1, name="t"), BIG + 220)
        self.same(row["s", 1], BIG + 20)

    def test_falls_and_steps(self):
        row = small_row()
        self.same([row.falls("a", gap) for gap in (1, 2, 3)], [True, False, False])
        self.same([row.falls("b", gap) for gap in (1, 2, 3)], [False, False, True])
        self.same([row.falls(name="s", gap=gap) for gap in (1, 2, 3)], [True, False, True])
        self.same([row.step("a", gap) for gap in (1, 2, 3)], [1, 0, 3])
        self.same([row.step("b", gap) for gap in (1, 2, 3)], [1, 0, 0])
        self.same([row.step(name="s", gap=gap) for gap in (1, 2, 3)], [7, 0, 4])

    def test_long_numbers(self):
        row = Row(BOOK, [[BIG + 1, BIG], [BIG, BIG + 1], [BIG, BIG], [3 * BIG, 0]])
        self.same([row.falls("s", gap) for gap in (1, 2, 3)], [False, True, False])
        self.same([row.step("s", gap) for gap in (1, 2, 3)], [0, 2 * BIG, BIG])
        self.same([row.step("a", gap) for gap in (1, 2, 3)], [BIG, 0, 2 * BIG])

    def test_rise(self):
        row = small_row()
        self.same([row.rise("a", 0, last) for last in range(4)], [0, 1, 1, 4])
        self.same([row.rise("s", first, 3) for first in range(4)], [11, 4, 4, 0])
        self.same(row.rise(last=2, first=1, name="b"), 0)
        for name in BOOK.names():
            for first in range(4):
                for last in range(first, 4):
                    steps = sum(row.step(name, gap) for gap in range(first + 1, last + 1))
                    self.same(row.rise(name, first, last), steps)

    def test_steps_of_many_rows(self):
        numbers = random.Random(5)
        for _ in range(200):
            row = Row(WIDE, [[numbers.randrange(4) for _ in range(4)] for _ in range(3)])
            for name in WIDE.names():
                at = [WIDE.counters().index(counter) for counter in WIDE.members(name)]
                sums = [sum(look[k] for k in at) for look in row.looks()]
                for gap in (1, 2):
                    falls = sums[gap] < sums[gap - 1]
                    self.same(row.falls(name, gap), falls)
                    self.same(row.step(name, gap), sums[gap] if falls else sums[gap] - sums[gap - 1])


class Operators(Case):
    def test_sum(self):
        one, two = Row(BOOK, [[9, 5], [1, 6]]), Row(BOOK, [[1, 0], [BIG, 2]])
        self.same((one + two).looks(), [[10, 5], [1 + BIG, 8]])
        self.same((two + one) == (one + two), True)
        self.same((Row(BOOK, [[1, 2]]) + Row(BOOK, [[3, 4]])).looks(), [[4, 6]])

    def test_times(self):
        row = small_row()
        for times in (0, 1, 3, BIG):
            wanted = [[reading * times for reading in look] for look in row.looks()]
            self.same((row * times).looks(), wanted)
            self.same((times * row).looks(), wanted)

    def test_other_forms_give_new_rows(self):
        row = kept = small_row()
        row += row
        self.same(row == kept * 2, True)
        row *= 2
        self.same(row == 4 * kept, True)
        self.same(kept == small_row(), True)

    def test_then(self):
        row = small_row()
        joined = row.then(other=Row(BOOK, [[4, 0], [5, 5], [BIG, 1]]))
        self.same(joined.looks(), row.looks() + [[5, 5], [BIG, 1]])
        self.same(row.then(Row(BOOK, [[4, 0]])) == row, True)

    def test_cut(self):
        row = small_row()
        for first in range(4):
            for last in range(first, 4):
                self.same(row.cut(first, last).looks(), row.looks()[first:last + 1])
        self.same(row.cut(last=2, first=1).gaps, 1)
        self.same(row.cut(0, 2).then(row.cut(2, 3)) == row, True)

    def test_equal(self):
        row = small_row()
        self.same(row == small_row(), True)
        self.same(row != small_row(), False)
        plain = Book(["a", "b"])
        others = [Row(plain, row.looks()), row.cut(0, 2), row * 2, row.looks(), BOOK, None, 0, "row", object()]
        for other in others:
            self.same(row == other, False)
            self.same(other == row, False)
            self.same(row != other, True)

    def test_books_that_are_equal_are_one_book(self):
        again = Row(Book(("a", "b"), (("s", ("b", "a")),)), small_row().looks())
        self.same(small_row() == again, True)
        self.same((small_row() + again) == 2 * again, True)
        self.same(small_row().then(again.cut(3, 3)) == again, True)

    def test_nothing_changes_the_row(self):
        looks = [[9, 5], [1, 6]]
        row = Row(BOOK, looks)
        looks[0][0] = 7
        looks.append([3, 3])
        row.looks()[0][0] = 7
        row.looks().append([1, 1])
        self.same(row.looks(), [[9, 5], [1, 6]])
        self.assertIsNot(row.looks()[0], row.looks()[0])
        before = copy.deepcopy(looks)
        Row(BOOK, looks)
        self.same(looks, before)


class RowsRefused(Case):
    def test_looks(self):
        for value in NO_LISTS + [[], ()]:
            self.refuses(InvalidLooks, {"value": value}, Row, BOOK, value)

    def test_look(self):
        wrong = NO_LISTS + [[], [1], [1, 2, 3], (1,), [[1], 2]]
        wrong += [[value, 2] for value in NO_COUNTS] + [(1, value) for value in NO_COUNTS]
        for value in wrong:
            self.refuses(InvalidLook, {"value": 0}, Row, BOOK, [value])
            self.refuses(InvalidLook, {"value": 1}, Row, BOOK, ([0, 0], value, value, [0, 0]))

    def test_unknown_name(self):
        row = small_row()
        for value in NO_NAMES + ["c", "ab", 5, object()]:
            wanted = {"value": value}
            self.refuses(UnknownName, wanted, row.reading, value, 9)
            self.refuses(UnknownName, wanted, row.__getitem__, (value, 9))
            self.refuses(UnknownName, wanted, row.falls, value, 9)
            self.refuses(UnknownName, wanted, row.step, value, 0)
            self.refuses(UnknownName, wanted, row.rise, value, 9, 9)
            self.refuses(UnknownName, wanted, row.rise, value, 1, 1)

    def test_numbers_of_looks(self):
        row = small_row()
        for value in NO_COUNTS + [4, 5, BIG]:
            wanted = {"value": value}
            self.refuses(InvalidLook, wanted, row.reading, "a", value)
            self.refuses(InvalidLook, wanted, row.__getitem__, ("s", value))
            self.refuses(InvalidLook, wanted, row.rise, "a", value, "x")
            self.refuses(InvalidLook, wanted, row.rise, "a", 0, value)
            self.refuses(InvalidLook, wanted, row.cut, value, None)
            self.refuses(InvalidLook, wanted, row.cut, 0, value)
        for first in range(4):
            for last in range(first):
                self.refuses(InvalidLook, {"value": last}, row.rise, "b", first, last)
                self.refuses(InvalidLook, {"value": last}, row.cut, first, last)

    def test_numbers_of_gaps(self):
        row = small_row()
        for value in NO_COUNTS + [0, 4, BIG]:
            self.refuses(InvalidGap, {"value": value}, row.falls, "a", value)
            self.refuses(InvalidGap, {"value": value}, row.step, "s", value)
        self.refuses(InvalidGap, {"value": 1}, Row(BOOK, [[1, 2]]).step, "a", 1)

    def test_sum(self):
        row = small_row()
        self.refuses(OtherBook, {}, lambda: row + Row(Book(["a", "b"]), [[1, 2]]))
        self.refuses(OtherBook, {}, lambda: row + Row(WIDE, [[1, 2, 3, 4]] * 4))
        for looks in (1, 3, 5):
            other = Row(BOOK, [[1, 2]] * looks)
            self.refuses(OtherLength, {"many": looks - 1}, lambda: row + other)
            self.refuses(OtherBook, {}, lambda: row + Row(Book(["a", "b"]), [[1, 2]] * looks))
        self.assertRaises(TypeError, lambda: row + 1)

    def test_times(self):
        row = small_row()
        for value in NO_COUNTS:
            self.refuses(InvalidInteger, {"value": value}, lambda: row * value)
            self.refuses(InvalidInteger, {"value": value}, lambda: value * row)
        self.same(row == small_row(), True)

    def test_then(self):
        row = small_row()
        self.refuses(OtherBook, {}, row.then, Row(Book(["a", "b"]), [[4, 0]]))
        self.refuses(OtherBook, {}, row.then, Row(Book(["a", "b"]), [[4, 1]]))
        for look in ([4, 1], [0, 4], [9, 5]):
            self.refuses(NoJoin, {}, row.then, Row(BOOK, [look, [4, 0]]))


if __name__ == "__main__":
    unittest.main()
