import copy
import random
import unittest

from surerise.books import Book
from surerise.errors import InvalidInteger, OtherBook, TooMany, TooShort, UnknownName
from surerise.questions import Question
from surerise.rows import Row
from surerise.wholes import Whole
from tests import walking
from tests.support import NO_COUNTS, NO_INTEGERS, NO_NAMES, Case

BOOK = walking.BOOK
THREE = walking.THREE
LARGE = walking.LARGE
BIG = 10 ** 38


def step(name, ago=0, book=BOOK):
    return Question.rising(book, name, 1).late(ago)


def show(name, ago=0, book=BOOK):
    return Question.showing(book, name).late(ago)


def weights(question):
    return [question.steps(), question.readings(), question.span, question.asked()]


class Weights(Case):
    def test_example(self):
        row = Row(BOOK, [[9, 5], [1, 6]])
        parts = Question.truth(BOOK, "s", 1)
        excess = Question.rising(BOOK, "s", 1) - parts
        self.same([excess.steps(), excess.span, excess(row)], [{("a", 0): -1, ("b", 0): -1, ("s", 0): 1}, 1, 5])
        found = [
            excess <= Question.zero(BOOK), Question.rising(BOOK, "a", 2) <= Question.rising(BOOK, "a", 3),
            parts >= Question.rising(BOOK, "b", 1),
        ]
        self.same(found, [False, True, True])
        late = Question.rising(BOOK, "a", 3).late(2)
        self.same(Question.rising(BOOK, "a", 5) - late == Question.rising(BOOK, "a", 2), True)

    def test_zero(self):
        for zero in (Question.zero(BOOK), Question.zero(book=BOOK)):
            self.same(weights(zero), [{}, {}, 0, []])
            self.assertEqual(zero.book, BOOK)

    def test_rising(self):
        self.same(weights(Question.rising(BOOK, "a", 1)), [{("a", 0): 1}, {}, 1, ["a"]])
        wanted = [{("s", 0): 1, ("s", 1): 1, ("s", 2): 1}, {}, 3, ["s"]]
        self.same(weights(Question.rising(gaps=3, name="s", book=BOOK)), wanted)

    def test_showing(self):
        self.same(weights(Question.showing(BOOK, "b")), [{}, {("b", 0): 1}, 0, []])
        self.same(weights(Question.showing(name="s", book=BOOK)), [{}, {("a", 0): 1, ("b", 0): 1}, 0, []])

    def test_truth(self):
        self.same(weights(Question.truth(BOOK, "a", 2)), [{("a", 0): 1, ("a", 1): 1}, {}, 2, ["a"]])
        wanted = [{("a", 0): 1, ("a", 1): 1, ("b", 0): 1, ("b", 1): 1}, {}, 2, ["a", "b"]]
        self.same(weights(Question.truth(gaps=2, name="s", book=BOOK)), wanted)

    def test_order_of_keys(self):
        question = Question.zero(THREE)
        for name, ago in [("s", 3), ("a", 0), ("t", 11), ("c", 2), ("t", 2), ("s", 0), ("c", 10), ("b", 1)]:
            question = step(name, ago, THREE) + question
        wanted = [("c", 2), ("c", 10), ("a", 0), ("b", 1), ("s", 0), ("s", 3), ("t", 2), ("t", 11)]
        self.same(list(question.steps()), wanted)
        self.same(question.asked(), ["c", "a", "b", "s", "t"])
        for name, ago in [("b", 3), ("a", 20), ("c", 1), ("a", 3), ("b", 0)]:
            question = question - show(name, ago, THREE)
        self.same(list(question.readings()), [("c", 1), ("a", 3), ("a", 20), ("b", 0), ("b", 3)])

    def test_span(self):
        for question, span in (
            (step("a", 4), 5), (show("a", 4), 4), (step("a", 3) + show("b", 4), 4), (step("a", 4) + show("b", 4), 5),
            (step("a") + step("b", 2) - step("b", 2), 1), (show("a"), 0), (step("a", 99), 100), (show("s", 100), 100),
            (Question.rising(BOOK, "s", 100), 100), (Question.truth(BOOK, "s", 100), 100),
        ):
            self.same(question.span, span)

    def test_limits(self):
        self.same([Question.MOST_NAMES, Question.MOST_GAPS], [6, 100])

    def test_nothing_changes_a_question(self):
        question = step("a") + show("b", 1)
        before = weights(question)
        question.steps()["b", 0] = 5
        question.readings().clear()
        question.asked().append("s")
        self.same(weights(question), before)
        kept = question
        question += question
        question *= 3
        question -= kept
        self.same(weights(kept), before)
        self.same(question == kept * 5, True)


class Values(Case):
    def test_values(self):
        row = Row(BOOK, [[9, 5], [1, 6], [1, 6], [4, 0]])
        for question, wanted in (
            (Question.zero(BOOK), 0), (step("a"), 3), (step("a", 2), 1), (step("s"), 4), (step("s", 2), 7),
            (step("b"), 0), (show("a"), 4), (show("s", 3), 14), (show("s", 1) - 2 * step("a", 2), 5),
            (Question.rising(BOOK, "s", 3), 11), (Question.truth(BOOK, "s", 3), 5),
            (BIG * show("b", 2) - BIG * step("b", 2), 5 * BIG),
        ):
            self.same(question.at(row), wanted)
            self.same(question(row), wanted)
            self.same(question.at(row=row), wanted)

    def test_value_looks_at_the_end_of_a_longer_row(self):
        numbers = random.Random(4)
        for book in walking.SMALL_BOOKS + [LARGE]:
            for _ in range(40):
                question = walking.random_question(numbers, book, numbers.randint(0, 3))
                row = walking.random_row(numbers, book, question.span + numbers.randint(0, 4))
                self.same(question(row), walking.value_at_row(question, row))
                self.same(question(row.cut(row.gaps - question.span, row.gaps)), question(row))

    def test_value_at_a_long_row(self):
        question = Question.rising(BOOK, "s", 100) + show("a", 100)
        looks = [[number % 7, number % 3] for number in range(150)]
        row = Row(BOOK, looks)
        self.same(question(row), row.rise("s", 49, 149) + row["a", 49])

    def test_refused(self):
        question = step("a", 2) + show("b", 3)
        short = Row(BOOK, [[1, 1]] * 3)
        self.refuses(TooShort, {"needed": 3}, question.at, short)
        self.refuses(TooShort, {"needed": 3}, question, short)
        self.refuses(TooShort, {"needed": 1}, step("a"), Row(BOOK, [[1, 1]]))
        self.refuses(OtherBook, {}, question.at, Row(walking.PLAIN, [[1, 1]]))
        self.refuses(OtherBook, {}, Question.zero(BOOK), Row(Book(["a", "b"]), [[1, 1]]))


class Algebra(Case):
    def test_sums_and_differences(self):
        one, two = step("a") + 2 * step("s", 1), step("a") - 2 * step("s", 1) + show("b")
        self.same(weights(one + two), [{("a", 0): 2}, {("b", 0): 1}, 1, ["a"]])
        self.same(weights(one - two), [{("s", 1): 4}, {("b", 0): -1}, 2, ["s"]])
        self.same(weights(one - one), [{}, {}, 0, []])
        self.same(weights(-two), [{("a", 0): -1, ("s", 1): 2}, {("b", 0): -1}, 2, ["a", "s"]])

    def test_multiples(self):
        one = step("a") - 2 * show("b", 1)
        for times in (0, 1, -1, 3, BIG, -BIG):
            steps, readings = {("a", 0): times}, {("b", 1): -2 * times}
            wanted = [steps, readings] if times else [{}, {}]
            for found in (one * times, times * one):
                self.same([found.steps(), found.readings()], wanted)
        self.same((one * 0).span, 0)

    def test_late(self):
        one = step("a") - 2 * show("b", 1)
        self.same(weights(one.late(3)), [{("a", 3): 1}, {("b", 4): -2}, 4, ["a"]])
        self.same(one.late(k=0) == one, True)
        self.same([one.late(99).span, show("a").late(100).span], [100, 100])
        for k in (0, 1, 100, 101, BIG):
            self.same(weights(Question.zero(BOOK).late(k)), [{}, {}, 0, []])
            self.same((one - one).late(k) == Question.zero(BOOK), True)

    def test_values_are_linear(self):
        numbers = random.Random(8)
        for book in walking.SMALL_BOOKS + [LARGE]:
            for _ in range(30):
                one, two = (walking.random_question(numbers, book, 3) for _ in range(2))
                row = walking.random_row(numbers, book, 6)
                self.same((one + two)(row), one(row) + two(row))
                self.same((one - two)(row), one(row) - two(row))
                self.same((-3 * one)(row), -3 * one(row))
                self.same((-one)(row), -one(row))
                self.same(one.late(2)(row), one(row.cut(0, 4)))

    def test_equal(self):
        one = step("a") + show("b")
        again = show("b") + step("a", book=Book(("a", "b"), [("s", ("b", "a"))]))
        self.same([one == again, one != again], [True, False])
        others = [
            step("a"), show("b"), one.late(1), one * 2, -one, step("b") + show("b"), Question.zero(BOOK),
            step("a", book=Book(["a", "b"])) + show("b", book=Book(["a", "b"])), Whole.rising(BOOK, "a"),
            one.steps(), BOOK, None, 0, "a", object(),
        ]
        for other in others:
            self.same([one == other, other == one, one != other], [False, False, True])
        for other in (0, False, None, {}, Whole.zero(BOOK), Question.zero(Book(["a"]))):
            self.same(Question.zero(BOOK) == other, False)

    def test_truth_of_questions(self):
        for question, wanted in (
            (Question.zero(BOOK), False), (step("a"), True), (show("a"), True), (-step("a"), True),
            (step("a") - step("a"), False), (step("a") * 0, False),
        ):
            self.same(bool(question), wanted)

    def test_one_form(self):
        """Questions that are not equal have different values at some row; here one of their difference is shown."""
        numbers = random.Random(12)
        for book in walking.SMALL_BOOKS:
            for _ in range(40):
                one, two = (walking.random_question(numbers, book, 2, far=1) for _ in range(2))
                below = one <= two and two <= one
                self.same(below, one == two)


class Refused(Case):
    def test_names(self):
        for value in NO_NAMES + ["c", "ab", 5]:
            wanted = {"value": value}
            self.refuses(UnknownName, wanted, Question.rising, BOOK, value, 0)
            self.refuses(UnknownName, wanted, Question.truth, BOOK, value, None)
            self.refuses(UnknownName, wanted, Question.showing, BOOK, value)

    def test_gaps(self):
        for made in (Question.rising, Question.truth):
            for value in NO_COUNTS + [0]:
                self.refuses(InvalidInteger, {"value": value}, made, BOOK, "s", value)
            for value in (101, 102, BIG):
                self.refuses(TooMany, {"what": "gaps", "limit": 100}, made, BOOK, "s", value)

    def test_late(self):
        for value in NO_COUNTS:
            self.refuses(InvalidInteger, {"value": value}, step("a").late, value)
            self.refuses(InvalidInteger, {"value": value}, Question.zero(BOOK).late, value)
        for question, k in ((step("a"), 100), (show("a"), 101), (Question.rising(BOOK, "a", 60), 41), (step("a"), BIG)):
            self.refuses(TooMany, {"what": "gaps", "limit": 100}, question.late, k)

    def test_times(self):
        for value in NO_INTEGERS:
            self.refuses(InvalidInteger, {"value": value}, lambda: step("a") * value)
            self.refuses(InvalidInteger, {"value": value}, lambda: value * step("a"))
        self.refuses(InvalidInteger, {"value": step("b")}, lambda: step("a") * step("b"))

    def test_other_book(self):
        one, other = step("a"), step("a", book=Book(["a", "b"]))
        self.refuses(OtherBook, {}, lambda: one + other)
        self.refuses(OtherBook, {}, lambda: one - other)
        self.refuses(OtherBook, {}, lambda: one <= other)
        self.refuses(OtherBook, {}, lambda: one >= other)
        many = sum_of(LARGE.names(), LARGE)
        self.refuses(OtherBook, {}, lambda: many <= one)

    def test_other_kinds(self):
        for other in (0, None, Whole.rising(BOOK, "a")):
            self.assertRaises(TypeError, lambda: step("a") + other)
            self.assertRaises(TypeError, lambda: step("a") - other)
            self.assertRaises(TypeError, lambda: step("a") <= other)
            self.assertRaises(TypeError, lambda: step("a") >= other)


def sum_of(names, book):
    found = Question.zero(book)
    for name in names:
        found = found + step(name, 0, book)
    return found


class NeverAbove(Case):
    def test_against_all_walks(self):
        numbers = random.Random(21)
        both = {True: 0, False: 0}
        for book in walking.SMALL_BOOKS:
            for _ in range(150):
                one = walking.random_question(numbers, book, numbers.randint(0, 3), far=1)
                two = walking.random_question(numbers, book, numbers.randint(0, 3), far=2)
                for more in (Question.zero(book), one + Question.truth(book, book.names()[-1], 2)):
                    two = two + more
                    if len((one - two).asked()) <= 6:
                        wanted = walking.is_never_above_zero(one - two)
                        both[wanted] += 1
                        self.same([one <= two, two >= one], [wanted, wanted])
        self.assertGreater(min(both.values()), 60)

    def test_rows_agree(self):
        numbers = random.Random(22)
        for book in walking.SMALL_BOOKS + [walking.PAIRS]:
            for _ in range(60):
                one = walking.random_question(numbers, book, 2, numbers.sample(book.names(), 1))
                two = walking.random_question(numbers, book, 2, numbers.sample(book.names(), 1))
                rows = [walking.random_row(numbers, book, 4) for _ in range(20)]
                if one <= two:
                    self.assertTrue(all(one(row) <= two(row) for row in rows))
                if one >= two:
                    self.assertTrue(all(one(row) >= two(row) for row in rows))

    def test_known_bounds(self):
        s, each = Question.rising(BOOK, "s", 1), Question.truth(BOOK, "s", 1)
        self.same([s <= each, s >= each, s <= show("s"), each <= show("s")], [False, False, True, True])
        self.same([step("a") <= show("a"), show("a") <= step("a") + show("a", 1), step("a") >= 0 * s], [True, True, True])
        self.same([s <= s, s <= 2 * s, 2 * s <= s, s.late(1) <= s], [True, True, False, False])
        long = Question.rising(BOOK, "s", 100)
        self.same([long >= Question.rising(BOOK, "s", 99), long <= Question.rising(BOOK, "s", 99)], [True, False])
        self.same([long <= 100 * each, show("s") <= show("s", 100) + long], [False, True])

    def test_spans_of_both_do_not_matter_where_they_take_one_another_away(self):
        one = step("a", 99) + step("a")
        self.same([one <= step("a", 99) + show("a"), one >= step("a", 99)], [True, True])

    def test_six_and_seven_names(self):
        names = LARGE.names()
        six, seven = sum_of(names[:6], LARGE), sum_of(names[:7], LARGE)
        zero = Question.zero(LARGE)
        self.same([six >= zero, six <= zero, six <= seven, seven <= seven], [True, False, True, True])
        self.same([seven - six <= step(names[0], 0, LARGE), seven - six <= step(names[6], 0, LARGE)], [False, True])
        for call in (lambda: seven <= zero, lambda: seven >= zero, lambda: zero >= seven, lambda: zero <= seven):
            self.refuses(TooMany, {"what": "names", "limit": 6}, call)
        nine = sum_of(names, LARGE)
        self.refuses(TooMany, {"what": "names", "limit": 6}, lambda: nine <= nine * 2)
        self.same([nine <= nine, nine <= nine + step("a", 3, LARGE)], [True, True])

    def test_zeros_and_ones(self):
        """What rows show is shown by a walk of zeros and ones: no row breaks what is never above at walks."""
        numbers = random.Random(30)
        for _ in range(60):
            question = walking.random_question(numbers, BOOK, 2)
            rows = [walking.random_row(numbers, BOOK, 2, 6) for _ in range(60)]
            if any(question(row) > 0 for row in rows):
                self.assertGreater(walking.greatest_of_walks(question), 0)
                self.same(question <= Question.zero(BOOK), False)

    def test_arguments_stay(self):
        one, two = step("a") + show("b"), step("s", 1)
        before = copy.deepcopy([weights(one), weights(two)])
        for done in (one + two, one - two, one <= two, one >= two, one == two, -one, one * 3, one.late(2)):
            self.assertIsNotNone(done)
        self.same([weights(one), weights(two)], before)


if __name__ == "__main__":
    unittest.main()
