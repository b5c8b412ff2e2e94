import random
import unittest

from surerise.books import Book
from surerise.errors import InvalidInteger, OtherBook, TooMany, UnknownName
from surerise.questions import Question
from surerise.rows import Row
from surerise.wholes import Whole
from tests import walking
from tests.support import NO_INTEGERS, NO_NAMES, Case

BOOK = walking.BOOK
THREE = walking.THREE
LARGE = walking.LARGE
BIG = 10 ** 38
ROW = Row(BOOK, [[9, 5], [1, 6], [1, 6], [4, 0]])
BOOKS = walking.SMALL_BOOKS + [walking.PAIRS, LARGE]


def rise(name, book=BOOK):
    return Whole.rising(book, name)


def weights(whole):
    return [whole.rises(), whole.firsts(), whole.lasts(), whole.asked()]


class Weights(Case):
    def test_example(self):
        net = Whole.net(BOOK, "a")
        self.same([net <= rise("a"), rise("a") <= net], [True, False])
        self.same([(net - rise("a"))(Row(BOOK, [[9, 5], [1, 6]])), net.firsts()], [-9, {"a": -1}])

    def test_made(self):
        for whole, wanted in (
            (Whole.zero(BOOK), [{}, {}, {}, []]), (Whole.zero(book=BOOK), [{}, {}, {}, []]),
            (Whole.rising(BOOK, "a"), [{"a": 1}, {}, {}, ["a"]]),
            (Whole.rising(name="s", book=BOOK), [{"s": 1}, {}, {}, ["s"]]),
            (Whole.opening(BOOK, "b"), [{}, {"b": 1}, {}, []]),
            (Whole.opening(name="s", book=BOOK), [{}, {"a": 1, "b": 1}, {}, []]),
            (Whole.closing(BOOK, "a"), [{}, {}, {"a": 1}, []]),
            (Whole.closing(name="s", book=BOOK), [{}, {}, {"a": 1, "b": 1}, []]),
            (Whole.net(BOOK, "a"), [{}, {"a": -1}, {"a": 1}, []]),
            (Whole.net(name="s", book=BOOK), [{}, {"a": -1, "b": -1}, {"a": 1, "b": 1}, []]),
        ):
            self.same(weights(whole), wanted)
            self.assertEqual(whole.book, BOOK)

    def test_order_of_keys(self):
        whole = Whole.zero(THREE)
        for name in ("t", "b", "s", "c", "a"):
            whole = whole + rise(name, THREE)
        self.same([list(whole.rises()), whole.asked()], [THREE.names(), THREE.names()])
        net = Whole.net(THREE, "b") + Whole.net(THREE, "c") + Whole.net(THREE, "a")
        self.same([list(net.firsts()), list(net.lasts())], [["c", "a", "b"], ["c", "a", "b"]])

    def test_nothing_changes_a_whole(self):
        whole = rise("a") - Whole.net(BOOK, "s")
        before = weights(whole)
        whole.rises()["b"] = 5
        whole.firsts().clear()
        whole.lasts().pop("a")
        whole.asked().append("s")
        self.same(weights(whole), before)
        kept = whole
        whole += whole
        whole *= 3
        whole -= kept
        self.same(weights(kept), before)
        self.same(whole == 5 * kept, True)


class Values(Case):
    def test_values(self):
        for whole, wanted in (
            (Whole.zero(BOOK), 0), (rise("a"), 4), (rise("b"), 1), (rise("s"), 11), (Whole.opening(BOOK, "s"), 14),
            (Whole.closing(BOOK, "s"), 4), (Whole.net(BOOK, "s"), -10), (BIG * rise("a") - Whole.net(BOOK, "b"), 4 * BIG + 5),
        ):
            self.same(whole.at(ROW), wanted)
            self.same(whole(ROW), wanted)
            self.same(whole.at(row=ROW), wanted)

    def test_values_at_rows_of_one_look(self):
        row = Row(BOOK, [[3, 4]])
        values = [rise("s")(row), Whole.opening(BOOK, "s")(row), Whole.closing(BOOK, "b")(row), Whole.net(BOOK, "s")(row)]
        self.same(values, [0, 7, 4, 0])

    def test_values_at_rows_of_many_looks(self):
        numbers = random.Random(1)
        for book in BOOKS:
            for _ in range(25):
                whole = walking.random_whole(numbers, book)
                row = walking.random_row(numbers, book, numbers.choice([0, 1, 2, 7, 40]))
                looks = row.looks()
                wanted = sum(w * row.rise(n, 0, row.gaps) for n, w in whole.rises().items())
                wanted += sum(w * looks[0][book.counters().index(n)] for n, w in whole.firsts().items())
                wanted += sum(w * looks[-1][book.counters().index(n)] for n, w in whole.lasts().items())
                self.same(whole(row), wanted)

    def test_refused(self):
        self.refuses(OtherBook, {}, rise("a").at, Row(walking.PLAIN, [[1, 1]]))
        self.refuses(OtherBook, {}, Whole.zero(BOOK), Row(Book(["a", "b"]), [[1, 1]]))


class Algebra(Case):
    def test_sums_differences_and_multiples(self):
        one, two = rise("a") + 2 * Whole.opening(BOOK, "b"), Whole.net(BOOK, "b") - rise("a") + rise("s")
        self.same(weights(one + two), [{"s": 1}, {"b": 1}, {"b": 1}, ["s"]])
        self.same(weights(one - two), [{"a": 2, "s": -1}, {"b": 3}, {"b": -1}, ["a", "s"]])
        self.same(weights(-two), [{"a": 1, "s": -1}, {"b": 1}, {"b": -1}, ["a", "s"]])
        self.same(weights(one - one), [{}, {}, {}, []])
        for times in (0, 1, -1, 4, BIG):
            wanted = [{"a": times}, {"b": 2 * times}, {}, ["a"]] if times else [{}, {}, {}, []]
            self.same(weights(one * times), wanted)
            self.same(weights(times * one), wanted)

    def test_values_are_linear(self):
        numbers = random.Random(2)
        for book in BOOKS:
            for _ in range(20):
                one, two = walking.random_whole(numbers, book), walking.random_whole(numbers, book)
                row = walking.random_row(numbers, book, 5)
                self.same((one + two)(row), one(row) + two(row))
                self.same((one - two)(row), one(row) - two(row))
                self.same([(-one)(row), (3 * one)(row)], [-one(row), 3 * one(row)])

    def test_equal(self):
        one = rise("a") + Whole.net(BOOK, "b")
        again = Whole.net(Book(("a", "b"), [("s", ("b", "a"))]), "b") + rise("a")
        self.same([one == again, one != again], [True, False])
        plain = Book(["a", "b"])
        others = [
            rise("a"), Whole.net(BOOK, "b"), one * 2, -one, Whole.zero(BOOK), rise("a", plain) + Whole.net(plain, "b"),
            rise("a") + Whole.closing(BOOK, "b"), rise("a") - Whole.opening(BOOK, "b"), Whole.closing(BOOK, "b"), BOOK, 0,
            None, "a", {}, object(), Question.rising(BOOK, "a", 1), Question.zero(BOOK),
        ]
        for other in others:
            self.same([one == other, other == one, one != other], [False, False, True])
        for other in (0, False, None, {}, Question.zero(BOOK), Whole.zero(plain)):
            self.same([Whole.zero(BOOK) == other, other == Whole.zero(BOOK)], [False, False])

    def test_truth_of_wholes(self):
        for whole, wanted in (
            (Whole.zero(BOOK), False), (rise("a"), True), (Whole.opening(BOOK, "a"), True), (Whole.closing(BOOK, "a"), True),
            (rise("a") - rise("a"), False), (Whole.net(BOOK, "a") * 0, False),
        ):
            self.same(bool(whole), wanted)


class NeverAbove(Case):
    def test_known_bounds(self):
        net, opening, closing = (made(BOOK, "s") for made in (Whole.net, Whole.opening, Whole.closing))
        each = rise("a") + rise("b")
        self.same([net <= each, net <= rise("s"), rise("s") <= each, rise("s") >= each], [True, True, False, False])
        self.same([closing <= opening + rise("s"), closing >= opening, rise("a") >= rise("a") - opening], [True, False, True])
        self.same([rise("a") <= 100 * closing, rise("s") <= rise("s"), closing <= closing + opening], [False, True, True])
        self.same([each <= 2 * rise("s"), 0 * net <= each, each >= 0 * net, opening <= 0 * net], [False, True, True, False])

    def test_rows_agree(self):
        numbers = random.Random(5)
        seen = {True: 0, False: 0}
        for book in BOOKS[:-1]:
            for _ in range(60):
                one, two = walking.random_whole(numbers, book, 1), walking.random_whole(numbers, book, 1)
                for counter in book.counters():
                    two = two + rise(counter, book) * numbers.randint(0, 1) + Whole.opening(book, counter)
                if len((one - two).asked()) > 6:
                    continue
                below = one <= two
                self.same(two >= one, below)
                seen[below] += 1
                for _ in range(10 if below else 0):
                    row = walking.random_row(numbers, book, numbers.randint(0, 6))
                    self.assertLessEqual(one(row), two(row))
        self.assertGreater(min(seen.values()), 20)

    def test_six_and_seven_names(self):
        names = LARGE.names()
        six, seven = (sum([rise(name, LARGE) for name in names[1:many]], rise(names[0], LARGE)) for many in (6, 7))
        zero = Whole.zero(LARGE)
        self.same([six >= zero, six <= zero, six <= seven, seven <= seven], [True, False, True, True])
        for call in (lambda: seven <= zero, lambda: seven >= zero, lambda: zero >= seven, lambda: zero <= seven):
            self.refuses(TooMany, {"what": "names", "limit": 6}, call)
        self.refuses(OtherBook, {}, lambda: seven <= rise("a"))


class Refused(Case):
    def test_names(self):
        for made in (Whole.rising, Whole.opening, Whole.closing, Whole.net):
            for value in NO_NAMES + ["c", "ab", 5]:
                self.refuses(UnknownName, {"value": value}, made, BOOK, value)

    def test_times(self):
        for value in NO_INTEGERS:
            self.refuses(InvalidInteger, {"value": value}, lambda: rise("a") * value)
            self.refuses(InvalidInteger, {"value": value}, lambda: value * rise("a"))
        self.refuses(InvalidInteger, {"value": rise("b")}, lambda: rise("a") * rise("b"))

    def test_other_books_and_kinds(self):
        one, other = rise("a"), rise("a", Book(["a", "b"]))
        for call in (lambda: one + other, lambda: one - other, lambda: one <= other, lambda: one >= other):
            self.refuses(OtherBook, {}, call)
        for other in (0, None, Question.rising(BOOK, "a", 1)):
            for call in (lambda: one + other, lambda: one - other, lambda: one <= other, lambda: one >= other):
                self.assertRaises(TypeError, call)


if __name__ == "__main__":
    unittest.main()
