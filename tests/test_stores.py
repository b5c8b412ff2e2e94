import random
import unittest
from unittest.mock import ANY

from surerise.errors import Entangled, InvalidSeries, OtherBook, UnknownName
from surerise.questions import Question
from surerise.rows import Row
from surerise.stores import Store
from surerise.wholes import Whole
from tests import storing, walking
from tests.support import NO_LISTS, NO_NAMES, Case

BOOK = walking.BOOK
LARGE = walking.LARGE
PAIRS = walking.PAIRS
ROW = Row(BOOK, [[9, 5], [1, 6], [1, 6], [4, 0]])


def step(name, ago=0, book=BOOK):
    return Question.rising(book, name, 1).late(ago)


def rise(name, gaps, book=BOOK):
    return Question.rising(book, name, gaps)


class Series(Case):
    def test_series(self):
        store = Store(BOOK, {"six": rise("a", 6), "b": step("b"), "four": rise("a", 4)})
        self.same([store.names(), store.book == BOOK], [["b", "four", "six"], True])
        self.same([store.series("six") == rise("a", 6), store.series(name="b") == step("b")], [True, True])
        self.same(Store(series={"x": step("a")}, book=BOOK).names(), ["x"])
        self.assertFalse(hasattr(store, "MOST_CHANGES"))

    def test_one_to_six_series(self):
        for many in range(1, 7):
            names = [f"s{number}" for number in range(many)]
            store = Store(BOOK, {name: rise("a", 1 + number) for number, name in enumerate(names)})
            self.same(store.names(), names)
        equal = Store(BOOK, {"x": step("a"), "y": step("a")})
        self.same([equal.series("x") == equal.series("y"), equal.told(ROW)], [True, {"x": [1, 0, 3], "y": [1, 0, 3]}])

    def test_unknown_names(self):
        store = Store(BOOK, {"x": step("a")})
        for value in NO_NAMES + ["y", "a", "xx"]:
            self.refuses(UnknownName, {"value": value}, store.series, value)

    def test_nothing_changes_a_store(self):
        series = {"x": step("a"), "y": step("b")}
        store = Store(BOOK, series)
        del series["x"]
        series["y"] = step("a")
        store.names().clear()
        store.told(ROW)["x"].clear()
        store.told(ROW).clear()
        self.same([store.names(), store.series("y") == step("b"), store.told(ROW)["x"]], [["x", "y"], True, [1, 0, 3]])

    def test_groups_without_all_their_parts(self):
        for questions in (
            [rise("s", 2), step("a")], [step("s"), step("s", 3)], [step("a"), step("b")],
        ):
            self.same(Store(BOOK, {f"s{k}": q for k, q in enumerate(questions)}).names(), [f"s{k}" for k in range(len(questions))])
        names = [name for name in LARGE.names() if name not in ("b", "e", "d")]
        whole = sum([step(name, 0, LARGE) for name in names], Question.zero(LARGE))
        self.refuses(Entangled, {"name": "all"}, Store, LARGE, {"x": whole})
        self.same(Store(LARGE, {"x": whole - step("y", 0, LARGE)}).names(), ["x"])


class Told(Case):
    def test_rows_longer_and_shorter_than_the_spans(self):
        store = Store(BOOK, {"one": step("a"), "two": rise("a", 2), "late": step("s", 2), "far": 2 * step("a", 3) - step("a")})
        self.same(store.told(ROW), {"far": [], "late": [7], "one": [1, 0, 3], "two": [1, 3]})
        self.same(store.told(row=ROW.cut(0, 1)), {"far": [], "late": [], "one": [1], "two": []})
        self.same(store.told(Row(BOOK, [[3, 3]])), {"far": [], "late": [], "one": [], "two": []})
        self.same(list(store.told(ROW)), ["far", "late", "one", "two"])

    def test_against_cut_rows(self):
        numbers = random.Random(21)
        for book, names in ((BOOK, ["a", "s"]), (walking.THREE, ["a", "s", "t"]), (PAIRS, ["y", "a", "all"]), (walking.ONE, ["a"])):
            for _ in range(40):
                store = storing.random_store(numbers, book, names)
                row = walking.random_row(numbers, book, numbers.randint(0, 7), 4)
                self.same(store.told(row), storing.told(store, row))

    def test_long_rows(self):
        numbers = random.Random(22)
        store = Store(LARGE, {"x": rise("all", 100, LARGE), "y": rise("a", 99, LARGE) - step("a", 99, LARGE)})
        row = walking.random_row(numbers, LARGE, 249, 10 ** 30)
        told = store.told(row)
        self.same([len(told["x"]), len(told["y"])], [150, 150])
        self.same(told["x"][-1], row.rise("all", 149, 249))

    def test_other_books(self):
        store = Store(BOOK, {"one": step("a")})
        for book in (walking.PLAIN, walking.ONE):
            self.refuses(OtherBook, {}, store.told, Row(book, [[1] * len(book)]))


class Refused(Case):
    def test_what_is_no_dict_of_one_to_six(self):
        seven = {f"s{number}": rise("a", 1 + number) for number in range(7)}
        for value in [value for value in NO_LISTS if value != {"a": 1}] + [{}, [], (), [("x", step("a"))], step("a"), seven, {**seven, 1: 2}]:
            self.refuses(InvalidSeries, {"name": None}, Store, BOOK, value)

    def test_names(self):
        for name in NO_NAMES:
            if name is not ANY and not isinstance(name, (list, dict)):
                self.refuses(InvalidSeries, {"name": name}, Store, BOOK, {name: step("a")})
                self.refuses(InvalidSeries, {"name": name}, Store, BOOK, {"a": None, name: step("a"), "b": 5})

    def test_values(self):
        bad = [None, True, 0, "step a 0", [], Whole.rising(BOOK, "a"), step("a", 0, walking.PLAIN), Question.zero(BOOK), Question.showing(BOOK, "a")]
        bad += [step("a") + Question.showing(BOOK, "b").late(2), ANY, Question, Question.zero(walking.PLAIN)]
        for value in bad:
            self.refuses(InvalidSeries, {"name": "x"}, Store, BOOK, {"x": value})
            self.refuses(InvalidSeries, {"name": "m"}, Store, BOOK, {"z": value, "m": value, "a": step("a")})
            self.refuses(InvalidSeries, {"name": "m"}, Store, BOOK, {"z": step("s") + step("a") + step("b"), "m": value})

    def test_entangled_names(self):
        two = step("z", 0, PAIRS) + step("a", 0, PAIRS) + step("b", 3, PAIRS)
        for book, series, name in (
            (BOOK, {"x": step("s") - step("a") - step("b")}, "s"), (BOOK, {"x": rise("s", 3), "y": step("a", 5), "z": step("b")}, "s"),
            (PAIRS, {"x": step("y", 0, PAIRS), "y": step("z", 0, PAIRS), "z": step("all", 0, PAIRS)}, "all"), (PAIRS, {"x": two}, "z"),
            (PAIRS, {"x": two + step("y", 0, PAIRS) + step("c", 0, PAIRS) + step("d", 0, PAIRS)}, "y"),
            (PAIRS, {"x": two + step("y", 0, PAIRS) + step("all", 0, PAIRS)}, "all"),
        ):
            self.refuses(Entangled, {"name": name}, Store, book, series)


if __name__ == "__main__":
    unittest.main()
