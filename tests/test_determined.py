import itertools
import random
import unittest
from unittest.mock import ANY

from surerise.determined import fewest, is_parting, is_recipe, least_gaps, recipe, two_rows
from surerise.errors import Entangled, InvalidInteger, InvalidQuestion, OtherBook, TooMany, TooShort
from surerise.questions import Question
from surerise.rows import Row
from surerise.stores import Store
from tests import storing, walking
from tests.support import NO_COUNTS, NO_LISTS, Case
from tests.test_stores import rise, step

BOOK = walking.BOOK
LARGE = walking.LARGE
PAIRS = walking.PAIRS
ZERO = Question.zero(BOOK)
PARTS = Question.truth(BOOK, "s", 1)
STORE = Store(BOOK, {"four": rise("a", 4), "six": rise("a", 6), "b": step("b")})
TWO = rise("a", 2)
# Equal to every name, but none.
ANY_KEY = type("Key", (), {"__eq__": lambda self, other: True, "__hash__": lambda self: hash("six")})()


class Determined(Case):
    def agrees(self, store, question, most=9):
        """Compares all answers about a question with slow ways; the least number of gaps."""
        found = least_gaps(store, question)
        made = recipe(store, question)
        self.same([made is None, least_gaps(question=question, store=store)], [found is None, found])
        if found is not None:
            self.same(is_recipe(store, question, made), True)
            self.assertEqual(storing.recipe_sum(store, made), question.steps())
            self.same(max([late + store.series(name).span for name, late in made] + [question.span]), found)
            self.same(storing.is_determined(store, question, found), True)
            self.same(found > 0 and storing.is_determined(store, question, found - 1), False)
        for gaps in range(question.span, most):
            self.rows_agree(store, question, gaps, found is not None and gaps >= found)
        return found

    def rows_agree(self, store, question, gaps, determined):
        self.same(storing.is_determined(store, question, gaps), determined)
        rows = two_rows(store, question, gaps)
        self.same(rows is None, determined)
        if rows is not None:
            self.same([type(rows), len(rows), is_parting(store, question, rows)], [tuple, 2, True])
            self.same([row.gaps for row in rows], [gaps, gaps])
            self.same(storing.told(store, rows[0]), storing.told(store, rows[1]))
            self.assertNotEqual(*[walking.value_at_row(question, row) for row in rows])

    def test_example(self):
        self.same([least_gaps(STORE, TWO), least_gaps(STORE, step("a")), least_gaps(STORE, PARTS), fewest(STORE, [TWO])], [6, None, None, ["four", "six"]])
        self.same(is_recipe(STORE, TWO, {("six", 0): (1, 1), ("four", 2): (-1, 1)}), True)
        self.assertRaises(Entangled, Store, BOOK, {"x": step("s") - PARTS})

    def test_questions(self):
        for series, question, wanted in (
            ({"x": step("a")}, step("a"), 1), ({"x": step("a")}, 3 * step("a", 2) - step("a"), 3), ({"x": step("a")}, step("b"), None), ({"x": step("a")}, ZERO, 0),
            ({"x": 2 * step("a")}, step("a"), 1), ({"x": step("a") + step("b")}, step("a"), None), ({"x": step("a") + step("b"), "y": step("a") - step("b")}, step("a"), 1),
            ({"x": step("a") + step("b", 1), "y": step("b")}, step("a"), 2), ({"x": step("a", 1)}, step("a"), None), ({"x": step("a", 1)}, step("a", 2), 3),
            ({"x": step("a", 5)}, step("a", 5), 6), ({"x": rise("a", 2), "y": rise("a", 3)}, step("a"), 3), ({"x": rise("a", 3), "y": rise("a", 5)}, step("a"), 6),
            ({"x": rise("a", 2), "y": rise("a", 4)}, step("a"), None), ({"x": rise("a", 2), "y": rise("a", 4)}, rise("a", 6), 6), ({"x": rise("s", 2)}, rise("a", 2), None),
            ({"x": rise("s", 2), "y": rise("a", 3)}, rise("s", 4) - 7 * rise("a", 3), 4), ({"x": step("a") - step("a", 1)}, step("a") - step("a", 2), 3),
            ({"x": step("a") + 2 * step("a", 1)}, step("a") - 4 * step("a", 2), 3), ({"x": step("a") + 2 * step("a", 1)}, step("a"), None),
        ):
            self.same(self.agrees(Store(BOOK, series), question), wanted)

    def test_more_than_a_series_alone_needs(self):
        """Sums of which the longest weights go away need more gaps than their spans."""
        store = Store(BOOK, {"x": step("a") + step("a", 3), "y": step("b") + step("a", 2)})
        self.same([self.agrees(store, step("a") - step("b", 1)), self.agrees(store, step("a")), self.agrees(store, step("a") - step("b", 1) + step("b"))], [4, None, None])
        store = Store(BOOK, {"x": step("a") + step("a", 3), "y": step("a", 3)})
        self.same([self.agrees(store, step("a")), self.agrees(store, step("a", 2)), self.agrees(store, step("a") + step("a", 5))], [4, 6, 6])

    def test_against_slow_ways(self):
        numbers = random.Random(31)
        seen = {}
        for book, names in ((BOOK, ["a", "s"]), (walking.THREE, ["a", "t", "s"]), (PAIRS, ["y", "a", "all"]), (walking.ONE, ["a"])):
            for number in range(60):
                store = storing.random_store(numbers, book, names)
                question = storing.random_rises(numbers, book, names, numbers.randint(0, 4))
                if number % 2:
                    question = Question.zero(book)
                    for name in store.names():
                        for late in range(3):
                            question = question + numbers.randint(-1, 1) * store.series(name).late(late)
                found = self.agrees(store, question, 8)
                seen[found] = seen.get(found, 0) + 1
        self.assertGreater(min(seen[None], seen[0], seen[4], seen[5]), 10)

    def test_zero(self):
        for store in (STORE, Store(LARGE, {"x": step("all", 7, LARGE)})):
            zero = Question.zero(store.book)
            self.same([least_gaps(store, zero), recipe(store, zero), two_rows(store, zero, 0), two_rows(store, zero, 60)], [0, {}, None, None])
            self.same([is_recipe(store, zero, {}), is_recipe(store, step("a", 0, store.book), {})], [True, False])
        self.same(is_recipe(STORE, ZERO, {("six", 0): (1, 1)}), False)
        equal = Store(BOOK, {"x": step("a"), "y": 2 * step("a")})
        self.same(is_recipe(equal, ZERO, {("x", 4): (2, 3), ("y", 4): (-1, 3)}), True)

    def test_more_than_a_hundred_gaps(self):
        store = Store(BOOK, {"x": rise("a", 97), "y": rise("a", 60), "z": rise("b", 2)})
        made = recipe(store, step("a"))
        self.same([least_gaps(store, step("a")), least_gaps(store, step("a", 99)), is_recipe(store, step("a"), made)], [153, 155, True])
        self.assertEqual(storing.recipe_sum(store, made), {("a", 0): 1})
        self.same(max(late + store.series(name).span for name, late in made), 153)
        rows = two_rows(store, step("a"), 60)
        self.same([is_parting(store, step("a"), rows), rows[0].gaps], [True, 60])
        self.same(fewest(store, [step("a"), rise("b", 2)]), ["x", "y", "z"])
        self.same(least_gaps(Store(BOOK, {"x": rise("a", 99), "y": rise("a", 66)}), step("a")), None)
        late = Store(BOOK, {"x": step("a") + step("a", 99), "y": step("a") + 2 * step("a", 98)})
        self.assertGreater(least_gaps(late, 2 * step("a")) or 0, 100)

    def test_late_numbers_above_a_hundred(self):
        store = Store(BOOK, {"x": rise("a", 100), "y": rise("a", 99)})
        self.same(is_recipe(store, ZERO, {("x", 10 ** 39): (1, 1)}), False)
        self.same(is_recipe(store, step("a"), {("x", 0): (1, 1), ("y", 1): (-1, 1)}), True)
        self.same(is_recipe(store, step("a"), {("x", 0): (1, 1), ("y", 1): (-1, 1), ("x", 10 ** 39): (1, 1)}), False)
        twice = Store(BOOK, {"x": rise("a", 100), "y": rise("a", 100), "z": step("a")})
        extra = {("x", 10 ** 39): (5, 7), ("y", 10 ** 39): (-5, 7), ("z", 0): (1, 1)}
        self.same(is_recipe(twice, step("a"), extra), True)
        ladder = {("x", 100 * k): (1, 3) for k in range(50)}
        less = {("y", 100 * k): (-1, 3) for k in range(50)}
        self.same(is_recipe(twice, ZERO, {**ladder, **less}), True)

    def test_large_books(self):
        numbers = random.Random(32)
        names = ["a", "b", "c", "all", "x"]
        for many, span in ((3, 12), (4, 8), (6, 5)):
            store = Store(LARGE, {f"s{k}": storing.random_rises(numbers, LARGE, names, span) for k in range(many)})
            question = Question.zero(LARGE)
            for name in store.names():
                question = question + numbers.randint(-3, 3) * store.series(name).late(numbers.randint(0, 5))
            found = least_gaps(store, question)
            self.same(is_recipe(store, question, recipe(store, question)), True)
            self.same(two_rows(store, question, found), None)
            for other, gaps in ((question, found - 1), (step("a", 3, LARGE), span)):
                if gaps >= other.span:
                    rows = two_rows(store, other, gaps)
                    self.same(rows is None, storing.is_determined(store, other, gaps))
                    self.same(rows is None or is_parting(store, other, rows), True)

    def test_long_weights(self):
        far = 10 ** 39
        store = Store(BOOK, {"x": far * step("a") + (far - 1) * step("a", 1), "y": (far - 2) * step("a") + step("s", 1)})
        question = far * step("s", 2) + 3 * step("a", 1)
        self.agrees(store, question, 5)
        self.agrees(store, 7 * store.series("x") - far * store.series("y").late(2), 5)


class Recipes(Case):
    def test_one_thing_otherwise(self):
        right = {("six", 0): (1, 1), ("four", 2): (-1, 1)}
        self.same([is_recipe(STORE, TWO, right), is_recipe(value=right, question=TWO, store=STORE)], [True, True])
        for wrong in (
            {("six", 0): (1, 1)}, {**right, ("b", 0): (1, 1)}, {("six", 0): (1, 1), ("four", 2): (1, 1)}, {("six", 0): (1, 1), ("four", 3): (-1, 1)},
            {("six", 1): (1, 1), ("four", 3): (-1, 1)}, {("six", 0): (2, 1), ("four", 2): (-2, 1)}, {("six", 0): (2, 2), ("four", 2): (-1, 1)},
            {("six", 0): (1, 1), ("four", 2): (1, -1)}, {("six", 0): 1, ("four", 2): -1}, {("six", 0): [1, 1], ("four", 2): (-1, 1)},
            {("six", 0): (True, 1), ("four", 2): (-1, 1)}, {**right, ("b", 0): (0, 1)}, {**right, ("six", 7): (0, 1)}, {("six", False): (1, 1), ("four", 2): (-1, 1)},
            {("six", 0): (1, 1), ("four", 2.0): (-1, 1)}, {("six", 0): (1, 1), ("four", 2, 0): (-1, 1)}, {("six",): (1, 1)}, {"six": (1, 1)}, {0: (1, 1)},
            {("seven", 0): (1, 1), **right}, {("six", -1): (1, 1)}, {(None, 0): (1, 1)}, {(("six", 0), 0): (1, 1)}, {("six", None): (1, 1)}, {**right, None: (1, 1)}, {(ANY_KEY, 0): (1, 1)},
            {("six", 0): (1.0, 1), ("four", 2): (-1, 1)}, {("six", 0): ANY, ("four", 2): (-1, 1)}, list(right.items()), {("six", 0): (1, 1), ("four", 2): (-1, 1, 1)},
        ):
            self.same(is_recipe(STORE, TWO, wrong), False)
        for value in NO_LISTS[:-3] + [[], (), set(), frozenset(right), ANY, right.items()]:
            self.same(is_recipe(STORE, TWO, value), False)

    def test_fractions(self):
        store = Store(BOOK, {"x": 2 * step("a") + 4 * step("b"), "y": 3 * step("b")})
        for value, wanted in (
            ({("x", 0): (1, 2), ("y", 0): (-2, 3)}, True), ({("x", 0): (1, 2), ("y", 0): (-2, 4)}, False), ({("x", 0): (1, 2), ("y", 0): (-1, 2)}, False),
            ({("x", 0): (2, 4), ("y", 0): (-2, 3)}, False), ({("x", 0): (1, 2)}, False),
        ):
            self.same(is_recipe(store, step("a"), value), wanted)
        self.same(recipe(store, step("a", 2)), {("x", 2): (1, 2), ("y", 2): (-2, 3)})

    def test_longer_recipes(self):
        """A recipe may need more gaps than the least number, and more series than are needed."""
        store = Store(BOOK, {"x": step("a"), "y": rise("a", 2)})
        for value in ({("x", 0): (1, 1)}, {("y", 0): (1, 1), ("x", 1): (-1, 1)}, {("y", 0): (1, 1), ("y", 1): (-1, 1), ("x", 2): (1, 1)},
                      {("x", 0): (1, 2), ("y", 0): (1, 2), ("x", 1): (-1, 2)}):
            self.same(is_recipe(store, step("a"), value), True)
        self.same(least_gaps(store, step("a")), 1)

    def test_answers_are_new(self):
        made = recipe(STORE, TWO)
        made.clear()
        self.same(is_recipe(STORE, TWO, recipe(STORE, TWO)), True)


class Parting(Case):
    def test_numbers_of_gaps(self):
        for gaps, wanted in ((2, False), (5, False), (6, True), (7, True), (60, True)):
            self.same(two_rows(STORE, TWO, gaps) is None, wanted)
            self.same(two_rows(gaps=gaps, question=TWO, store=STORE) is None, wanted)
        for gaps in (1, 2, 59, 60):
            self.same(is_parting(STORE, step("a"), two_rows(STORE, step("a"), gaps)), True)
            self.same(is_parting(STORE, PARTS, two_rows(STORE, PARTS, gaps)), True)

    def test_wrong_numbers_of_gaps(self):
        for value in NO_COUNTS:
            self.refuses(InvalidInteger, {"value": value}, two_rows, STORE, TWO, value)
        for gaps in (0, 1):
            self.refuses(TooShort, {"needed": 2}, two_rows, STORE, TWO, gaps)
        self.refuses(TooShort, {"needed": 90}, two_rows, STORE, step("a", 89), 61)
        for gaps in (61, 100, 10 ** 30):
            self.refuses(TooMany, {"what": "gaps", "limit": 60}, two_rows, STORE, TWO, gaps)
            self.refuses(TooMany, {"what": "gaps", "limit": 60}, two_rows, STORE, ZERO, gaps)

    def test_rows(self):
        one, other = Row(BOOK, [[9, 5], [1, 6]]), Row(BOOK, [[9, 5], [3, 6]])
        for store, question, value, wanted in (
            (STORE, step("a"), (one, other), True), (STORE, step("a"), (other, one), True), (STORE, step("b"), (one, other), False), (STORE, PARTS, (one, other), True),
            (STORE, TWO, (one, other), False), (STORE, step("a"), (one, one), False), (STORE, step("a"), (one,), False), (STORE, step("a"), (one, other, one), False),
            (STORE, step("a"), [one, other], False), (STORE, step("a"), (one, Row(BOOK, [[9, 5], [3, 6], [3, 6]])), False), (STORE, step("a"), (one, None), False),
            (STORE, step("a"), (None, other), False), (STORE, step("a"), (one, Row(BOOK, [[9, 5], [3, 7]])), False), (STORE, step("a"), (ANY, ANY), False),
            (STORE, step("a"), (one, [[9, 5], [3, 6]]), False), (STORE, step("a"), (one, Row(walking.PLAIN, [[9, 5], [3, 6]])), False),
            (STORE, step("a"), (Row(walking.PLAIN, [[9, 5], [1, 6]]), Row(walking.PLAIN, [[9, 5], [3, 6]])), False), (STORE, ZERO, (one, other), False),
            (Store(BOOK, {"x": step("a")}), step("a"), (one, other), False), (Store(BOOK, {"x": rise("a", 2)}), step("a"), (one, other), True),
        ):
            self.same(is_parting(store, question, value), wanted)
        for value in NO_LISTS + [[], (), one]:
            self.same(is_parting(STORE, step("a"), value), False)

    def test_rows_of_which_nothing_is_told(self):
        store = Store(BOOK, {"x": rise("a", 6)})
        one, other, longer = Row(BOOK, [[9, 5], [1, 6]]), Row(BOOK, [[9, 5], [3, 6]]), Row(BOOK, [[9, 5], [9, 5], [3, 6]])
        self.same([store.told(one), store.told(longer)], [{"x": []}, {"x": []}])
        for value, wanted in (((one, other), True), ((one, longer), False), ((longer, one), False), ((one, one), False)):
            self.same(is_parting(store, step("a"), value), wanted)
        self.same(is_parting(store, step("a", 1), (one, other)), False)

    def test_rows_need_not_be_made_of_falls(self):
        one, other = Row(BOOK, [[0, 0], [1, 0], [3, 0], [3, 0], [3, 0]]), Row(BOOK, [[0, 0], [2, 0], [3, 0], [3, 0], [3, 0]])
        self.same([STORE.told(one) == STORE.told(other), is_parting(STORE, rise("a", 3), (one, other))], [True, True])
        self.same(is_parting(STORE, rise("a", 2), (one, other)), False)

    def test_groups_of_all_kinds(self):
        """Readings of groups, of their parts and of the counters beside these are chosen one by one."""
        for names in (["a", "all"], ["a", "c", "all"], ["y", "a", "all"], ["a", "y", "c"], ["all", "z", "y"][:2], ["b", "d", "y", "z", "all"][:3]):
            for question, series in itertools.permutations([step(name, k, PAIRS) for k, name in enumerate(names)], 2):
                store = Store(PAIRS, {"x": series, "y": question + 2 * series})
                self.same(least_gaps(store, question), max(question.span, series.span))
                store = Store(PAIRS, {"x": question + series})
                for gaps in (max(question.span, series.span), 9):
                    self.same(is_parting(store, question, two_rows(store, question, gaps)), True)


class Fewest(Case):
    def from_all_sets(self, store, questions):
        """The fewest series by all subsets."""
        names = store.names()
        for size in range(len(names) + 1):
            for chosen in itertools.combinations(names, size):
                if not chosen and any(questions):
                    continue
                if not chosen or all(least_gaps(Store(store.book, {n: store.series(n) for n in chosen}), q) is not None for q in questions):
                    return list(chosen)
        return None

    def test_against_all_sets(self):
        numbers = random.Random(33)
        seen = {}
        for book, names in ((BOOK, ["a", "s"]), (PAIRS, ["y", "a", "all"]), (walking.ONE, ["a"])):
            for _ in range(60):
                store = storing.random_store(numbers, book, names, 5)
                questions = []
                for _ in range(numbers.randint(0, 3)):
                    some = numbers.sample(store.names(), numbers.randint(0, min(2, len(store.names()))))
                    questions.append(sum([numbers.randint(-1, 2) * store.series(n).late(numbers.randint(0, 2)) for n in some], Question.zero(book)))
                wanted = self.from_all_sets(store, questions)
                seen[len(wanted)] = seen.get(len(wanted), 0) + 1
                self.same([fewest(store, questions), fewest(questions=questions, store=store)], [wanted, wanted])
        self.assertGreater(min(seen[0], seen[1], seen[2]), 10)

    def test_several_sets_of_one_size(self):
        series = {"f": step("a"), "e": 2 * step("a"), "d": step("b"), "c": step("a") + step("b"), "b": rise("a", 2)}
        store = Store(BOOK, series)
        for questions, wanted in (
            ([step("a")], ["e"]), ([step("b")], ["d"]), ([step("a"), step("b")], ["c", "d"]), ([rise("a", 2)], ["b"]), ([rise("a", 2), step("a")], ["e"]),
            ([step("a") + step("b")], ["c"]), ([rise("a", 4) + rise("b", 4)], ["c"]), ([rise("a", 2), rise("a", 2) + step("b", 3)], ["b", "d"]), ([ZERO], []),
            ([ZERO, ZERO], []), ([], []), ([rise("a", 3)], ["e"]), ([rise("a", 4)], ["b"]),
        ):
            self.same([fewest(store, questions), fewest(store, questions + [ZERO])], [wanted, wanted])

    def test_equal_series_under_two_names(self):
        store = Store(BOOK, {"y": step("a"), "x": step("a"), "a": step("b"), "z": step("b")})
        for questions, wanted in (([step("a")], ["x"]), ([step("b")], ["a"]), ([step("b"), step("a")], ["a", "x"])):
            self.same(fewest(store, questions), wanted)

    def test_what_is_not_determined(self):
        for questions in ([step("a")], [TWO, step("a")], [PARTS], [step("a", 7) - step("a", 8)], [ZERO, step("b", 3), rise("a", 3)]):
            self.same(fewest(STORE, questions), None)
        self.same(fewest(STORE, [TWO, step("b"), rise("a", 8), ZERO]), ["b", "four", "six"])
        self.same([fewest(STORE, []), fewest(STORE, ()), fewest(STORE, [ZERO])], [[], [], []])


class Refused(Case):
    def calls(self, question, store=STORE):
        yield least_gaps, store, question
        yield recipe, store, question
        yield is_recipe, store, question, None
        yield two_rows, store, question, -1
        yield is_parting, store, question, None
        yield fewest, store, [TWO, question, step("a", 0, walking.ONE)]

    def test_errors_in_their_sequence(self):
        shown = Question.showing(BOOK, "a")
        mixed = shown + step("s")
        far = Question.showing(walking.ONE, "a")
        for question, error, attributes in (
            (step("a", 0, walking.ONE), OtherBook, {}), (far, OtherBook, {}), (shown, InvalidQuestion, {"value": shown}), (mixed, InvalidQuestion, {"value": mixed}),
            (step("s"), None, None), (TWO + step("s", 4), None, None),
        ):
            for call in self.calls(question):
                if error is not None:
                    self.refuses(error, attributes, *call)
        self.same([least_gaps(Store(BOOK, {"x": step("a")}), step("s")), least_gaps(Store(BOOK, {"x": step("a")}), step("s") - step("b") + step("b"))], [None, None])

    def test_entangled_with_the_series(self):
        store = Store(BOOK, {"x": rise("a", 4), "y": step("s")})
        for question in (step("b"), step("b", 5) - step("a"), step("b") + step("s")):
            for call in self.calls(question, store):
                if call[0] is fewest:
                    call = (fewest, store, [TWO, question, step("a", 0, walking.ONE)])
                self.refuses(Entangled, {"name": "s"}, *call)
        self.same(least_gaps(store, step("a", 3) + step("s", 2)), None)

    def test_entangled_together(self):
        store = Store(BOOK, {"x": step("a")})
        self.same([least_gaps(store, step("s")), least_gaps(store, step("b"))], [None, None])
        self.refuses(Entangled, {"name": "s"}, fewest, store, [step("a"), step("s"), step("b")])
        self.refuses(OtherBook, {}, fewest, store, [step("s"), step("b"), step("a", 0, walking.ONE)])
        self.same(fewest(store, [step("s"), step("s", 4)]), None)
        free = Store(PAIRS, {"x": step("z", 0, PAIRS)})
        self.refuses(Entangled, {"name": "all"}, fewest, free, [step("all", 0, PAIRS), step("y", 0, PAIRS)])


if __name__ == "__main__":
    unittest.main()
