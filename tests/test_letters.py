import copy
import itertools
import random
import time
import unittest
from unittest.mock import ANY

from surerise.books import Book
from surerise.errors import ImpossibleLetter, InvalidGap, InvalidLetter, InvalidLook, InvalidNames
from surerise.errors import TakenName, UnknownName
from surerise.letters import filled_names, fitting_letters, is_letter, is_possible, letter_of, possible_letters
from surerise.letters import strict_row
from surerise.rows import Row
from tests.support import NO_COUNTS, NO_LISTS, NO_NAMES, Case

BOOK = Book(["a", "b"], [("s", ["a", "b"])])
DEEP = Book(["d", "c", "b", "a"], [("t", ["a", "b", "c"]), ("s", ["a", "c"])])
CHAIN = Book(list("abcde"), [("w", list("ab")), ("v", list("abc")), ("u", list("abcd")), ("t", list("abcde"))])
SIDES = Book(list("abcde"), [("z", list("ab")), ("y", list("cde")), ("all", list("abcde"))])
BOOKS = [BOOK, DEEP, CHAIN, SIDES, Book(["a"]), Book(["b", "a"])]


def some_names(book):
    """Lists of asked names in several sequences."""
    numbers = random.Random(7)
    for many in range(len(book.names()) + 1):
        for names in itertools.combinations(book.names(), many):
            if len(book.names()) < 7 or numbers.random() < 0.2:
                mixed = list(names)
                numbers.shuffle(mixed)
                yield mixed


def seen_letters(book, far):
    """The letters, of all names, at which each counter rises or falls by no more than a number."""
    found = set()
    members = {name: [book.counters().index(counter) for counter in book.members(name)] for name in book.names()}
    for changes in itertools.product(range(-far, far + 1), repeat=len(book)):
        found.add(tuple(name for name, at in members.items() if sum(changes[k] for k in at) < 0))
    return found


def in_order(book, letters):
    numbers = {name: number for number, name in enumerate(book.names())}
    return sorted(letters, key=lambda letter: [numbers[name] for name in letter])


class Letters(Case):
    def test_example(self):
        row = Row(BOOK, [[9, 5], [1, 6]])
        wanted = [(), ("a",), ("a", "b", "s"), ("a", "s"), ("b",), ("b", "s")]
        self.same(possible_letters(BOOK, ["s", "b", "a"]), wanted)
        self.same(possible_letters(BOOK, ["s", "a"]), [(), ("a",), ("a", "s"), ("s",)])
        self.same(letter_of(row, ["a", "b", "s"], 1), ("a", "s"))
        self.same(is_possible(BOOK, ["a", "b", "s"], ("s",)), False)
        self.same(fitting_letters(BOOK, ["a", "b", "s"], (1, 1), (0, 1)), [("a", "b", "s"), ("a", "s")])

    def test_filled_names(self):
        for names, wanted in (
            (["a", "b", "s"], ["s"]), (["s", "a"], []), (["s"], []), ([], []), (["b", "a"], []),
        ):
            self.same(filled_names(BOOK, names), wanted)
        for names, wanted in (
            (["t", "s", "a", "b", "c"], ["s", "t"]), (["t", "s", "b"], ["t"]), (["t", "s", "a", "c"], ["s"]),
            (["t", "a", "b", "c"], ["t"]), (["t", "s", "d"], []), (("b", "t", "a", "s"), ["t"]),
            (["t", "a", "c", "s", "b", "d"], ["s", "t"]),
        ):
            self.same(filled_names(names=names, book=DEEP), wanted)
        self.same(filled_names(CHAIN, CHAIN.names()), ["t", "u", "v", "w"])
        self.same(filled_names(CHAIN, ["t", "v", "d", "e"]), ["t"])
        self.same(filled_names(CHAIN, ["t", "v", "u", "e"]), ["t"])
        self.same(filled_names(SIDES, ["all", "y", "z"]), ["all"])
        self.same(filled_names(SIDES, ["all", "y", "a", "b"]), ["all"])
        self.same(filled_names(SIDES, ["all", "y", "a", "z"]), ["all"])
        self.same(filled_names(SIDES, ["all", "y", "a"]), [])

    def test_letter_of(self):
        row = Row(DEEP, [[1, 2, 3, 4], [1, 3, 2, 4], [0, 3, 5, 3], [9, 0, 5, 9]])
        self.same([letter_of(row, DEEP.names(), gap) for gap in (1, 2, 3)], [("b",), ("d", "a", "s"), ("c",)])
        self.same([letter_of(row, ("s", "a", "d"), gap) for gap in (1, 2, 3)], [(), ("d", "a", "s"), ()])
        self.same(letter_of(gap=2, names=[], row=row), ())
        self.same(letter_of(row, ["t", "b"], 1), ("b",))

    def test_is_letter(self):
        names = ["s", "a", "d", "t"]
        for letter in ((), ("d",), ("d", "a", "s", "t"), ("s", "t"), ("a", "t")):
            self.same(is_letter(DEEP, names, letter), True)
        wrong = [
            ("a", "d"), ("t", "s"), ("a", "a"), ("d", "d", "a"), ("b",), ("c", "s"), ("x",), (1,), (None,), (True,),
            ("d", ["a"]), (("d",),), ({},), (ANY,), ("d", ANY), ANY,
            ["d"], [], "d", "", None, True, 0, {}, {"d": 1}, ("d", "a", "s", "t", "t"),
        ]
        for value in wrong:
            self.same(is_letter(DEEP, names, value), False)
        self.same(is_letter(value=("a", "b"), names=("b", "a"), book=BOOK), True)
        self.same(is_letter(BOOK, [], ()), True)
        self.same(is_letter(BOOK, [], ("a",)), False)
        self.same(is_letter(BOOK, ["a"], (ANY,)), False)

    def test_possible_letters_are_those_that_rows_have(self):
        for book, far in ((BOOK, 2), (DEEP, 4), (SIDES, 4), (Book(["a"]), 1), (Book(["b", "a"]), 1)):
            seen = seen_letters(book, far)
            for names in some_names(book):
                wanted = {tuple(name for name in letter if name in names) for letter in seen}
                self.same(possible_letters(book, names), in_order(book, wanted))

    def test_is_possible(self):
        for book in BOOKS:
            for names in some_names(book):
                possible = possible_letters(book=book, names=tuple(names))
                asked = [name for name in book.names() if name in names]
                for many in range(len(asked) + 1):
                    for letter in itertools.combinations(asked, many):
                        self.same(is_possible(book, names, letter), letter in possible)
        self.same(is_possible(letter=("a", "s"), book=BOOK, names=["s", "a"]), True)

    def test_fitting_letters(self):
        numbers = random.Random(3)
        for book in BOOKS:
            for names in some_names(book):
                before = [numbers.randrange(3) for _ in book.counters()]
                after = tuple(numbers.randrange(3) for _ in book.counters())
                row = Row(book, [before, after])
                wanted = []
                for letter in possible_letters(book, names):
                    stays = [n for n in names if row[n, 0] == row[n, 1]]
                    if all((n in letter) == row.falls(n, 1) for n in names if n not in stays):
                        wanted.append(letter)
                self.same(fitting_letters(book, names, before, after), wanted)
        self.same(fitting_letters(after=[0, 10 ** 30], before=[1, 0], names=["s", "a"], book=BOOK), [("a",)])
        self.same(fitting_letters(BOOK, [], [1, 1], [0, 0]), [()])

    def test_strict_row(self):
        numbers = random.Random(4)
        for book in BOOKS:
            for names in some_names(book):
                letters = possible_letters(book, names)
                letters = numbers.sample(letters, min(20, len(letters)))
                self.has_letters(strict_row(book, names, letters), book, names, letters)
        self.has_letters(strict_row(letters=(("a",),), book=BOOK, names=("s", "a")), BOOK, ["a", "s"], [("a",)])

    def has_letters(self, row, book, names, letters):
        self.assertIs(type(row), Row)
        self.assertEqual(row.book, book)
        self.same([letter_of(row, names, gap) for gap in range(1, row.gaps + 1)], list(letters))

    def test_strict_row_with_many_letters(self):
        names = CHAIN.names()
        possible = possible_letters(CHAIN, names)
        for letter in possible[::20] + [possible[-1]]:
            self.has_letters(strict_row(CHAIN, names, [letter] * 249), CHAIN, names, [letter] * 249)
        letters = (possible * 2)[:249]
        self.has_letters(strict_row(CHAIN, names, letters), CHAIN, names, letters)

    def test_strict_row_without_letters(self):
        for names in ([], ["a", "b", "s"]):
            row = strict_row(BOOK, names, [])
            self.same([row.gaps, row.book == BOOK], [0, True])
        self.has_letters(strict_row(BOOK, [], [(), (), ()]), BOOK, [], [(), (), ()])

    def test_arguments_stay(self):
        names, letters, looks = ["s", "a", "b"], [("a",), ("b", "s")], [[1, 2], [2, 1]]
        before = copy.deepcopy((names, letters, looks))
        first = possible_letters(BOOK, names)
        first.append("more")
        self.same(len(possible_letters(BOOK, names)), 6)
        filled_names(BOOK, names).append("more")
        self.same(filled_names(BOOK, names), ["s"])
        strict_row(BOOK, names, letters)
        fitting_letters(BOOK, names, looks[0], looks[1]).append("more")
        self.same((names, letters, looks), before)

    def fastest(self, call, *args):
        """The milliseconds of the fastest of several calls."""
        times = []
        for _ in range(40):
            begun = time.perf_counter()
            call(*args)
            times.append(time.perf_counter() - begun)
        return min(times) * 1000

    def test_many_lists_of_letters_can_be_asked(self):
        book = Book(["a", "b", "c"], [("s", ["a", "b"]), ("t", ["a", "b", "c"])])
        names = ["t", "s", "c", "b", "a"]
        possible = possible_letters(book, names)
        self.assertLess(self.fastest(strict_row, book, names, possible[:9]), 0.32)
        self.assertLess(self.fastest(is_possible, book, names, possible[5]), 0.027)
        for large in (CHAIN, SIDES):
            letters = possible_letters(large, large.names())[::2][:60]
            self.assertLess(self.fastest(strict_row, large, large.names(), letters), 10)


class LettersRefused(Case):
    def calls(self, then):
        """The functions with asked names; what stands behind the names is wrong too, if there is something."""
        row = Row(BOOK, [[1, 2], [2, 1]])
        yield lambda names: filled_names(BOOK, names)
        yield lambda names: possible_letters(BOOK, names)
        yield lambda names: letter_of(row, names, then)
        yield lambda names: is_letter(BOOK, names, then)
        yield lambda names: is_possible(BOOK, names, then)
        yield lambda names: fitting_letters(BOOK, names, then, then)
        yield lambda names: strict_row(BOOK, names, then)

    def test_names(self):
        for call in self.calls(None):
            for value in NO_LISTS:
                self.refuses(InvalidNames, {"value": value}, call, value)
            for value in NO_NAMES + ["c", "ab", 5, ("a", "b")]:
                self.refuses(UnknownName, {"value": value}, call, [value, "a", "a"])
                self.refuses(UnknownName, {"value": value}, call, ("a", value, "a"))
                self.refuses(TakenName, {"name": "a"}, call, ["a", "a", value])
            self.refuses(TakenName, {"name": "s"}, call, ["b", "s", "s", "b"])
            self.refuses(TakenName, {"name": "b"}, call, ("b", "s", "a", "b"))

    def test_gap(self):
        row = Row(BOOK, [[1, 2], [2, 1]])
        for names in ([], ["a", "s"]):
            for value in NO_COUNTS + [0, 2]:
                self.refuses(InvalidGap, {"value": value}, letter_of, row, names, value)

    def test_letter(self):
        for value in [["a"], [], "a", None, True, {}, ("b",), ("s", "a"), ("a", "a"), (1,), (["a"],), (None,)]:
            self.refuses(InvalidLetter, {"value": value}, is_possible, BOOK, ["a", "s"], value)

    def test_looks(self):
        wrong = NO_LISTS + [[], [1], [1, 2, 3]] + [[1, v] for v in NO_COUNTS] + [(v, 1) for v in NO_COUNTS]
        for value in wrong:
            self.refuses(InvalidLook, {"value": value}, fitting_letters, BOOK, ["a"], value, None)
            self.refuses(InvalidLook, {"value": value}, fitting_letters, BOOK, ["a"], [1, 1], value)
            self.refuses(InvalidLook, {"value": value}, fitting_letters, BOOK, [], (1, 1), value)

    def test_letters(self):
        names = ["s", "a", "b"]
        for value in NO_LISTS:
            self.refuses(InvalidLetter, {"value": value}, strict_row, BOOK, names, value)
        for value in [["a"], [], "a", None, True, {}, ("c",), ("s", "a"), ("a", "a"), (1,), (["a"],)]:
            for letters in ([value], [("a",), value, ["b"]], (("s",), value), [value, ("s",)]):
                self.refuses(InvalidLetter, {"value": value}, strict_row, BOOK, names, letters)

    def test_impossible_letters(self):
        names = ["s", "a", "b"]
        for letters, position in (([("s",)], 0), ([("a", "b")], 0), ([(), ("a",), ("s",), ("a", "b")], 2)):
            self.refuses(ImpossibleLetter, {"position": position}, strict_row, BOOK, names, letters)
        self.refuses(ImpossibleLetter, {"position": 1}, strict_row, BOOK, names, (("a", "s"), ("a", "b"), ("s",)))


if __name__ == "__main__":
    unittest.main()
