import copy
import itertools
import random
import time
import unittest
from unittest.mock import ANY

from surerise.books import Book
from surerise.columns import columns
from surerise.errors import InvalidWalk, OtherBook, TooMany, TooShort
from surerise.letters import letter_of, possible_letters
from surerise.questions import Question
from surerise.rows import Row
from surerise.windows import breaking_row, breaks, greatest, greatest_walk, heights, is_heights, is_walk, walk_value
from tests import walking
from tests.support import NO_INTEGERS, NO_LISTS, Case

BOOK = walking.BOOK
LARGE = walking.LARGE
EXCESS = Question.rising(BOOK, "s", 1) - Question.truth(BOOK, "s", 1)
ODD_VALUES = NO_LISTS + [
    [], (), [[], []], ([],), ([], []), ([], [], []), {1: 2}, 1.5, [None], (None, None), ("ab", "cd"), ([ANY], []), (ANY, ANY),
]


def step(name, ago=0, book=BOOK):
    return Question.rising(book, name, 1).late(ago)


def show(name, ago=0, book=BOOK):
    return Question.showing(book, name).late(ago)


def wide_questions():
    """Questions of a large book with a span of 100 gaps and six asked names, different weights at all gaps."""
    numbers = random.Random(41)
    for names in (list("abcde") + ["all"], list("abcd") + ["x", "all"], ["a", "b", "z", "y", "x", "all"]):
        found = {}
        for name in names:
            for ago in range(100):
                found[name, ago] = numbers.choice([-5, -3, -2, -1, 1, 2, 4])
        readings = {(name, ago): numbers.randint(1, 4) for name in "abcde" for ago in range(101)}
        yield Question(LARGE, found, readings)


class Columns(Case):
    def test_columns(self):
        self.same(columns(Book(["x"])), [(0,), (1,)])
        self.same(columns(book=BOOK), [(0, 0), (0, 1), (1, 0), (1, 1)])
        for book in walking.SMALL_BOOKS + [LARGE]:
            self.same(columns(book), walking.all_columns(book))
        columns(BOOK).clear()
        self.same(len(columns(BOOK)), 4)


class Walks(Case):
    def test_walks(self):
        for walk in (
            ([(0, 1), (0, 1)], [("a", "s")]), (((0, 1), (0, 1)), (("a", "s"),)), ([(0, 0), (1, 1)], [()]),
            ([(1, 1)], []), (((0, 1),), ()), ([(1, 1), (0, 0), (0, 0)], [("a", "b", "s"), ("b", "s")]),
            ([(1, 0), (0, 1)], [("a",)]), ([(1, 0), (0, 1)], [("a", "s")]),
        ):
            self.same(is_walk(EXCESS, walk), True)
        self.same(is_walk(value=([(1, 0), (0, 1)], [("a",)]), question=EXCESS), True)

    def test_walks_ask_only_for_the_names_of_the_question(self):
        question = step("s")
        self.same(is_walk(question, ([(1, 0), (0, 1)], [()])), True)
        self.same(is_walk(question, ([(1, 0), (0, 1)], [("s",)])), True)
        self.same(is_walk(question, ([(1, 0), (0, 1)], [("a", "s")])), False)
        self.same(is_walk(Question.zero(BOOK), ([(1, 0), (0, 1)], [()])), True)
        self.same(is_walk(show("a", 1), ([(1, 0), (0, 1)], [("a",)])), False)

    def test_all_short_walks(self):
        """A walk is what the definition says, for all columns and tuples of names."""
        names = ["a", "b", "s"]
        tuples = [t for many in range(4) for t in itertools.product(names, repeat=many)]
        right = walking.moves(BOOK, names)
        for u, letter, v in itertools.product(columns(BOOK), tuples, columns(BOOK)):
            self.same(is_walk(EXCESS, ([u, v], [letter])), (u, letter, v) in right)

    def test_one_thing_otherwise(self):
        looks, letters = [(0, 1), (1, 1), (0, 0)], [("b",), ("a", "b", "s")]
        self.same(is_walk(EXCESS, (looks, letters)), True)
        for wrong in (
            [looks, letters], (looks, letters, []), (looks,), (looks[:2], letters), (looks, letters[:1]),
            (looks + looks, letters), ([list(look) for look in looks], letters), (looks, [list(letters[0]), letters[1]]),
            ([(0, 1), (1, 1), (0, 0, 0)], letters), ([(0, 1), (1,), (0, 0)], letters), ([(0, 2), (1, 1), (0, 0)], letters),
            ([(0, -1), (1, 1), (0, 0)], letters), ([(False, 1), (1, 1), (0, 0)], letters), ([(0, 1), (1, True), (0, 0)], letters),
            ([(0, 1.0), (1, 1), (0, 0)], letters), ([(0, "1"), (1, 1), (0, 0)], letters), ([(0, ANY), (1, 1), (0, 0)], letters),
            (looks, [("a",), letters[1]]), (looks, [("s",), letters[1]]), (looks, [(), letters[1][1:]]),
            (looks, [("b",), ("b", "a", "s")]), (looks, [("b",), ("a", "b", "s", "s")]), (looks, [("b",), ("a", "b", "t")]),
            (looks, [("b",), None]), (looks, ["b", letters[1]]), (looks, [(ANY,), letters[1]]), (looks, {0: ("b",), 1: ()}),
            (looks[::-1], letters), (looks, [("b",), ("a", "b")]), (dict(enumerate(looks)), letters),
            ({(0, 1): 0}, []), ([(0, 1)], {}), ([(0, 1)], ""), (None, []), ([(0, 1)], None), ([(0, 1)], 0),
        ):
            self.same(is_walk(EXCESS, wrong), False)
            self.refuses(InvalidWalk, {"value": wrong}, walk_value, EXCESS, wrong)

    def test_values_of_any_kind(self):
        for question in (EXCESS, Question.zero(BOOK), sum_of(LARGE.names())):
            for value in ODD_VALUES:
                self.same(is_walk(question, value), False)
                self.refuses(InvalidWalk, {"value": value}, walk_value, question, value)

    def test_random_walks(self):
        numbers = random.Random(3)
        for book in walking.SMALL_BOOKS + [walking.PAIRS]:
            for _ in range(40):
                question = walking.random_question(numbers, book, 3)
                looks, letters = walking.random_walk(numbers, book, question.asked(), question.span)
                self.same(is_walk(question, (looks, letters)), True)
                wanted = walking.value_at_walk(question, looks, letters)
                self.same(walk_value(question, (tuple(looks), tuple(letters))), wanted)
                self.same(walk_value(walk=(looks, letters), question=question), wanted)

    def test_value_needs_as_many_gaps_as_the_span(self):
        for many in (0, 1, 3, 5):
            walk = ([(0, 1)] * (many + 1), [()] * many)
            self.same(is_walk(EXCESS.late(1), walk), True)
            self.refuses(InvalidWalk, {"value": walk}, walk_value, EXCESS.late(1), walk)

    def test_example(self):
        self.same(walk_value(EXCESS, ([(0, 1), (0, 1)], [("a", "s")])), 1)
        self.same(walk_value(step("b"), ([(0, 1), (0, 1)], [("b",)])), 1)
        self.same(walk_value(step("b"), ([(0, 1), (0, 1)], [()])), 0)
        self.same(walk_value(show("b", 1), ([(0, 1), (0, 0)], [()])), 1)

    def test_many_names_and_many_gaps(self):
        question = sum_of(LARGE.names())
        letter = tuple(LARGE.names())
        walk = ([(1,) * 5] * 2, [letter])
        self.same([is_walk(question, walk), walk_value(question, walk)], [True, 5 + 5 + 2 + 3 + 2])
        long = ([(1,) * 5] * 201, [letter] * 200)
        self.same(is_walk(question, long), True)
        self.refuses(InvalidWalk, {"value": long}, walk_value, question, long)
        wrong = ([(1,) * 5] * 201, [letter] * 199 + [("all",)])
        self.same(is_walk(question, wrong), False)


def sum_of(names, book=LARGE):
    found = Question.zero(book)
    for name in names:
        found = found + step(name, 0, book)
    return found


class Greatest(Case):
    def test_example(self):
        parts = Question.truth(BOOK, "s", 1)
        row = Row(BOOK, [[9, 5], [1, 6]])
        found = [greatest(EXCESS), breaks(EXCESS, row), heights(EXCESS), breaking_row(-parts), greatest(parts)]
        self.same(found, [1, True, None, None, 2])
        same = {(0, 0): 0, (0, 1): 0, (1, 0): 0, (1, 1): 0}
        self.same(is_heights(-step("a"), [same, same]), True)

    def test_against_all_walks(self):
        numbers = random.Random(51)
        seen = {True: 0, False: 0}
        for book in walking.SMALL_BOOKS + [walking.PAIRS]:
            for number in range(120):
                question = walking.random_question(numbers, book, numbers.randint(0, 3), far=1)
                if number % 2:
                    question = question - Question.truth(book, book.names()[-1], 2)
                if len(question.asked()) <= 6:
                    seen[self.all_agree(question)] += 1
        self.assertGreater(min(seen.values()), 40)

    def all_agree(self, question):
        """Compares all answers about a question with walks over all columns and letters."""
        wanted = walking.greatest_of_walks(question)
        self.same(greatest(question=question), wanted)
        walk = greatest_walk(question=question)
        self.same(is_walk(question, walk), True)
        self.same(walking.value_at_walk(question, walk[0], walk[1]), wanted)
        found, row = heights(question=question), breaking_row(question=question)
        self.same([found is None, row is None], [wanted > 0, wanted == 0])
        self.same(question <= Question.zero(question.book), wanted == 0)
        if wanted > 0:
            self.same(row.gaps, question.span)
            self.assertGreater(walking.value_at_row(question, row), 0)
            self.same(breaks(row=row, question=question), True)
        else:
            self.assertTrue(right_heights(question, found))
            self.same(is_heights(value=found, question=question), True)
        return wanted > 0

    def test_wide_questions(self):
        for question in wide_questions():
            begun = time.process_time()
            walk = greatest_walk(question)
            row = breaking_row(question)
            self.same(walk_value(question, walk), greatest(question))
            self.same([breaks(question, row), row.gaps, heights(question)], [True, 100, None])
            self.same(question <= Question.zero(LARGE), False)
            self.assertLess(time.process_time() - begun, 5)

    def test_wide_questions_that_are_never_above_zero(self):
        for question in wide_questions():
            below = Question(LARGE, {key: -abs(weight) for key, weight in question.steps().items()}, {})
            begun = time.process_time()
            found = heights(below)
            self.same([len(found), greatest(below), breaking_row(below)], [101, 0, None])
            self.same([below <= Question.zero(LARGE), is_heights(below, found)], [True, True])
            found[50][1, 0, 1, 0, 1] -= 1
            self.same(is_heights(below, found), False)
            self.assertLess(time.process_time() - begun, 5)

    def test_rises_over_many_gaps(self):
        for name in LARGE.names():
            rise = Question.rising(LARGE, name, 100)
            self.same(greatest(rise - Question.rising(LARGE, name, 99)), len(LARGE.members(name)))
            self.same(greatest(rise), 100 * len(LARGE.members(name)))
        self.same(greatest(show("a") - show("a", 100) - Question.rising(BOOK, "a", 100)), 0)
        self.same(greatest(show("a") - show("a", 100) - Question.rising(BOOK, "a", 99)), 1)

    def test_zeros_and_ones(self):
        """The values at rows that contain only zeros and ones never go above the greatest value."""
        numbers = random.Random(61)
        for _ in range(40):
            question = walking.random_question(numbers, BOOK, 2)
            most = max(question(Row(BOOK, looks)) for looks in itertools.product(columns(BOOK), repeat=question.span + 1))
            self.assertLessEqual(most, greatest(question))

    def test_the_row_has_the_letters_of_a_walk(self):
        question = EXCESS + EXCESS.late(1)
        row = breaking_row(question)
        for gap in (1, 2):
            self.assertIn(letter_of(row, question.asked(), gap), possible_letters(BOOK, question.asked()))
        self.same(row.book == BOOK, True)

    def test_answers_are_new(self):
        one, two = heights(-step("a")), heights(-step("a"))
        one[0][0, 0] = 5
        one.clear()
        self.same(is_heights(-step("a"), two), True)
        self.assertEqual(len({id(table) for table in two}), 2)
        walk = greatest_walk(EXCESS)
        walk[0].clear()
        walk[1].clear()
        self.same(walk_value(EXCESS, greatest_walk(EXCESS)), 1)


def right_heights(question, value):
    """Whether heights have the properties of [43], looked up one by one."""
    book, span = question.book, question.span
    if any(height > 0 for height in value[0].values()):
        return False
    if any(value[span][u] < walking.look_worth(question, 0, u) for u in value[span]):
        return False
    for k in range(1, span + 1):
        ahead, behind = value[span - k], value[span - k + 1]
        for u, letter, v in walking.moves(book, question.asked()):
            least = walking.look_worth(question, k, u) + walking.gap_worth(question, k - 1, u, letter, v) + behind[v]
            if ahead[u] < least:
                return False
    return True


class Heights(Case):
    def bounded(self, numbers, book):
        """A question that is never above zero."""
        while True:
            question = walking.random_question(numbers, book, 2, far=1) - Question.truth(book, book.names()[-1], 2)
            if len(question.asked()) <= 6 and walking.greatest_of_walks(question) == 0:
                return question

    def test_right_and_spoilt(self):
        numbers = random.Random(71)
        seen = {True: 0, False: 0}
        for book in walking.SMALL_BOOKS:
            for _ in range(25):
                question = self.bounded(numbers, book)
                found = walking.least_heights(question)
                self.same(is_heights(question, found), True)
                for _ in range(8):
                    spoilt = copy.deepcopy(found)
                    for _ in range(numbers.randint(1, 3)):
                        table = numbers.choice(spoilt)
                        table[numbers.choice(list(table))] += numbers.choice([-1, 1, 2])
                    wanted = right_heights(question, spoilt)
                    seen[wanted] += 1
                    self.same(is_heights(question, spoilt), wanted)
                    self.same(is_heights(question, tuple(spoilt)), wanted)
        self.assertGreater(min(seen.values()), 15)

    def test_each_height_is_the_least(self):
        question = Question.rising(BOOK, "s", 2) - 2 * Question.truth(BOOK, "s", 2) - show("s", 2) - show("s", 1)
        found = heights(question)
        for table in found:
            for column in table:
                table[column] -= 1
                self.same(is_heights(question, found), False)
                table[column] += 1
        self.same(is_heights(question, found), True)

    def test_no_height_above_zero_at_look_0(self):
        flat = {column: 0 for column in columns(BOOK)}
        raised = dict(flat)
        raised[1, 0] = 1
        self.same(is_heights(-step("a") - show("a", 1), [flat, raised]), True)
        self.same(is_heights(Question.zero(BOOK), [flat]), True)
        self.same(is_heights(Question.zero(BOOK), [raised]), False)
        low = {column: -5 for column in flat}
        self.same(is_heights(-show("s"), [{column: -sum(column) for column in flat}]), True)
        self.same(is_heights(-show("s"), [low]), False)
        self.same([is_heights(-step("a"), [flat, raised]), is_heights(-step("a"), [raised, flat])], [False, False])
        raised[1, 0] = 2
        self.same(is_heights(-step("a") - show("a", 1), [flat, raised]), False)

    def test_wrong_forms(self):
        flat = {column: 0 for column in columns(BOOK)}
        question = -step("a")
        less = {column: 0 for column in columns(BOOK)[1:]}
        more = dict(flat)
        more[1, 2] = 0
        for table in (
            less, more, {**less, (0, 0, 0): 0}, {**less, "00": 0}, {**less, (False, 0): 0}, {**less, (0, 0.0): 0}, {**less, None: 0},
            {**less, (0, 2): 0}, {**less, ANY_KEY: 0}, {}, [], None, list(flat.items()), ANY, 0, "ab", True,
        ):
            for value in ([table, flat], [flat, table], (table, table)):
                self.same(is_heights(question, value), False)
        for wrong in NO_INTEGERS:
            self.same(is_heights(question, [flat, {**less, (0, 0): wrong}]), False)
            self.same(is_heights(question, [{**less, (0, 0): wrong}, flat]), False)
        for value in ODD_VALUES + [flat, [flat], [flat] * 3, {0: flat, 1: flat}, [flat, flat, None]]:
            self.same(is_heights(question, value), False)
        self.same(is_heights(question, (flat, flat)), True)

    def test_long_integers(self):
        far = 10 ** 39
        flat = {column: 0 for column in columns(BOOK)}
        question = -far * step("a") + (far - 1) * step("a", 1)
        self.same([greatest(question), heights(question), is_heights(question, [flat] * 3)], [far - 1, None, False])
        question = -far * step("a") - (far - 1) * show("b", 1)
        self.same([greatest(question), is_heights(question, heights(question))], [0, True])


ANY_KEY = type("Key", (), {"__eq__": lambda self, other: True, "__hash__": lambda self: hash((0, 0))})()


class Refused(Case):
    def test_too_many_names(self):
        names = LARGE.names()
        wanted = {"what": "names", "limit": 6}
        for question in (sum_of(names[:7]), sum_of(names)):
            for call in (greatest, greatest_walk, heights, breaking_row):
                self.refuses(TooMany, wanted, call, question)
            for value in (None, [], ANY):
                self.refuses(TooMany, wanted, is_heights, question, value)
            self.same(is_walk(question, ([(0,) * 5] * 2, [()])), True)
            self.same(walk_value(question, ([(0,) * 5] * 2, [()])), 0)
            self.same(breaks(question, Row(LARGE, [[1] * 5] * 2)), False)
        six = sum_of(names[:6])
        self.same([greatest(six), heights(six), breaks(six, breaking_row(six)), is_heights(six, None)], [10, None, True, False])

    def test_breaks(self):
        row = Row(BOOK, [[9, 5], [1, 6]])
        self.same([breaks(EXCESS, row), breaks(-EXCESS, row), breaks(Question.zero(BOOK), row)], [True, False, False])
        self.same(breaks(EXCESS, Row(BOOK, [[1, 1], [9, 5], [1, 6]])), True)
        self.refuses(TooShort, {"needed": 1}, breaks, EXCESS, Row(BOOK, [[9, 5]]))
        self.refuses(TooShort, {"needed": 3}, breaks, EXCESS.late(2), Row(BOOK, [[9, 5]] * 3))
        self.refuses(OtherBook, {}, breaks, EXCESS, Row(walking.PLAIN, [[9, 5]]))


if __name__ == "__main__":
    unittest.main()
