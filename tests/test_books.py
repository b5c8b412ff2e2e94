import copy
import unittest

from surerise.books import Book
from surerise.errors import CrossingGroups, InvalidCounters, InvalidGroup, InvalidGroups
from surerise.errors import InvalidName, SameGroup, TakenName, UnknownName
from tests.support import NO_LISTS, NO_NAMES, Case

FIVE = ["e", "d", "c", "b", "a"]
NESTED = [("z", ["a", "e", "b"]), ("y", ("c", "d")), ("all", FIVE), ("x", ["b", "e"])]


class Books(Case):
    def test_example(self):
        book = Book(["a", "b"], [("s", ["a", "b"])])
        self.same(book.names(), ["a", "b", "s"])
        self.same(book.above("a"), "s")
        self.same(book.above("s"), None)

    def test_order_of_names(self):
        book = Book(FIVE, NESTED)
        self.same(book.counters(), FIVE)
        self.same(book.groups(), ["all", "x", "y", "z"])
        self.same(book.names(), FIVE + ["all", "x", "y", "z"])

    def test_members(self):
        book = Book(counters=tuple(FIVE), groups=tuple(NESTED))
        self.same(book.members("a"), ["a"])
        self.same(book.members("x"), ["e", "b"])
        self.same(book.members("y"), ["d", "c"])
        self.same(book.members("z"), ["e", "b", "a"])
        self.same(book.members(name="all"), FIVE)

    def test_within(self):
        book = Book(FIVE, NESTED)
        self.same(book.within("a"), [])
        self.same(book.within("x"), ["e", "b"])
        self.same(book.within("y"), ["d", "c"])
        self.same(book.within("z"), ["e", "b", "a", "x"])
        self.same(book.within(name="all"), FIVE + ["x", "y", "z"])

    def test_above(self):
        book = Book(FIVE, NESTED)
        found = {name: book.above(name) for name in book.names()}
        wanted = {"a": "z", "b": "x", "c": "y", "d": "y", "e": "x", "x": "z", "y": "all", "z": "all", "all": None}
        self.same(found, wanted)
        self.same(book.above(name="x"), "z")
        self.same(Book(["a", "b", "c"], [("s", ["a", "b"])]).above("c"), None)

    def test_above_does_not_depend_on_the_names(self):
        book = Book(FIVE, [("p", ["a", "b"]), ("q", ["a", "b", "c"]), ("r", ["a", "b", "c", "d"]), ("t", FIVE)])
        self.same([book.above(name) for name in "abcdepqrt"], ["p", "p", "q", "r", "t", "q", "r", "t", None])
        book = Book(FIVE, [("t", ["a", "b"]), ("r", ["a", "b", "c"]), ("q", ["a", "b", "c", "d"]), ("p", FIVE)])
        self.same([book.above(name) for name in "abcdetrqp"], ["t", "t", "r", "q", "p", "r", "q", "p", None])

    def test_without_groups(self):
        for many in range(1, 6):
            for book in (Book(FIVE[:many]), Book(FIVE[:many], []), Book(tuple(FIVE[:many]), ())):
                self.same(book.names(), FIVE[:many])
                self.same(book.groups(), [])
                self.same(len(book), many)

    def test_in(self):
        book = Book(FIVE, NESTED)
        for name in book.names():
            self.same(name in book, True)
        for value in NO_NAMES + ["f", "w", "ab", [], 5, None, b"a", ("a", "b")]:
            self.same(value in book, False)

    def test_len_and_class_value(self):
        self.same(len(Book(FIVE, NESTED)), 5)
        self.same(Book.MOST_COUNTERS, 5)

    def test_equal(self):
        book = Book(FIVE, NESTED)
        self.same(book == Book(tuple(FIVE), [(n, tuple(reversed(m))) for n, m in reversed(NESTED)]), True)
        self.same(book != Book(FIVE, NESTED), False)
        others = [
            Book(FIVE), Book(FIVE, NESTED[:3]), Book(FIVE[::-1], NESTED),
            Book(FIVE, NESTED[:3] + [("w", ["b", "e"])]), Book(FIVE, NESTED[:3] + [("x", ["b", "a"])]),
            FIVE, (FIVE, NESTED), None, "book", 5, {}, object(),
        ]
        for other in others:
            self.same(book == other, False)
            self.same(other == book, False)
            self.same(book != other, True)
        self.same(Book(["a", "b"]) == Book(["a", "c"]), False)
        self.same(Book(["a", "b"]) == Book(["b", "a"]), False)
        self.same(Book(["a", "b"]) == Book(["a"]), False)

    def test_nothing_changes_the_book(self):
        counters, members = list(FIVE), ["a", "b"]
        groups = [("s", members)]
        before = copy.deepcopy((counters, groups))
        book = Book(counters, groups)
        self.same((counters, groups), before)
        counters[0] = "x"
        members.append("c")
        groups.append(("t", ["c", "d"]))
        for give in (book.counters, book.groups, book.names):
            give().append("more")
        for give in (book.members, book.within):
            give("s").append("more")
            give("a").append("more")
            self.assertIsNot(give("s"), give("s"))
        self.same(book == Book(FIVE, [("s", ["a", "b"])]), True)
        self.same(book.names(), FIVE + ["s"])
        self.same(book.members("s"), ["b", "a"])
        self.same(book.within("s"), ["b", "a"])
        self.same(book.within("a"), [])


class BooksRefused(Case):
    def test_counters(self):
        for value in NO_LISTS + [[], (), list("abcdef"), [None] * 6]:
            self.refuses(InvalidCounters, {"value": value}, Book, value)
            self.refuses(InvalidCounters, {"value": value}, Book, value, None)

    def test_names_of_counters(self):
        for value in NO_NAMES:
            self.refuses(InvalidName, {"value": value}, Book, ["a", value])
            self.refuses(InvalidName, {"value": value}, Book, (value, "a", "a"), None)
            self.refuses(TakenName, {"name": "a"}, Book, ["a", "a", value], None)
        self.refuses(TakenName, {"name": "b"}, Book, ["a", "b", "c", "b", "a"])
        self.refuses(InvalidName, {"value": True}, Book, counters=[True, 1], groups=[])

    def test_groups(self):
        for value in NO_LISTS:
            self.refuses(InvalidGroups, {"value": value}, Book, ["a", "b"], value)

    def test_group(self):
        good = ("s", ["a", "b"])
        wrong = NO_LISTS + [["s", ["a", "b"]], (), ("s",), ("s", ["a", "b"], 1), [], "ab", ("s", "a", "b")]
        wrong += [(name, ["a", "c"]) for name in NO_NAMES]
        wrong += [("t", members) for members in NO_LISTS]
        wrong += [("t", ["a", member]) for member in NO_NAMES]
        wrong += [("t", [member, "a"]) for member in NO_NAMES]
        wrong += [("t", members) for members in ([], ["a"], ["a", "a"], ["a", "b", "a"], ["a", "d"], ["a", "s"], "ac")]
        for value in wrong:
            self.refuses(InvalidGroup, {"position": 0}, Book, ["a", "b", "c"], [value])
            self.refuses(InvalidGroup, {"position": 0}, Book, ["a", "b", "c"], [value, good, good])
            self.refuses(InvalidGroup, {"position": 1}, Book, ["a", "b", "c"], (good, value))
            self.refuses(TakenName, {"name": "s"}, Book, ["a", "b", "c"], [good, good, value])

    def test_first_error_of_a_group(self):
        self.refuses(InvalidGroup, {"position": 0}, Book, ["a", "b"], [("a", ["a", "c"])])
        self.refuses(TakenName, {"name": "b"}, Book, ["a", "b"], [("b", ["a", "b"])])
        self.refuses(TakenName, {"name": "s"}, Book, ["a", "b"], [("s", ["a", "b"]), ("s", ["a", "b"])])
        self.refuses(TakenName, {"name": "s"}, Book, list("abc"), [("s", ["a", "b"]), ("s", ["b", "c"])])

    def test_same_group(self):
        groups = [("t", ["a", "b"]), ("u", ["c", "d"]), ("s", ["d", "c"])]
        self.refuses(SameGroup, {"name": "s", "other": "u"}, Book, list("abcd"), groups)
        groups = [("s", ["a", "b"]), ("r", ("b", "a"))]
        self.refuses(SameGroup, {"name": "r", "other": "s"}, Book, list("ab"), groups)

    def test_crossing_groups(self):
        groups = [("s", ["a", "b"]), ("t", ["b", "c"])]
        self.refuses(CrossingGroups, {"name": "t", "other": "s"}, Book, list("abc"), groups)
        groups = [("s", ["a", "b", "c"]), ("t", ["c", "d"])]
        self.refuses(CrossingGroups, {"name": "t", "other": "s"}, Book, list("abcd"), groups)
        self.refuses(CrossingGroups, {"name": "s", "other": "t"}, Book, list("abcd"), groups[::-1])

    def test_earlier_groups_in_turn(self):
        one, two = ("z", ["a", "b"]), ("b1", ["c", "d"])
        crossing = ("k", ["b", "c"])
        self.refuses(CrossingGroups, {"name": "k", "other": "z"}, Book, list("abcd"), [one, two, crossing])
        self.refuses(CrossingGroups, {"name": "k", "other": "b1"}, Book, list("abcd"), [two, one, crossing])
        wide = ("w", ["a", "b", "c"])
        groups = [("k", ["a", "b"]), wide, ("m", ["b", "a"])]
        self.refuses(SameGroup, {"name": "m", "other": "k"}, Book, list("abcd"), groups)
        groups = [one, wide, ("m", ["a", "c"])]
        self.refuses(CrossingGroups, {"name": "m", "other": "z"}, Book, list("abcd"), groups)
        self.refuses(SameGroup, {"name": "m", "other": "z"}, Book, list("abcd"), [one, ("m", ["a", "b"]), crossing])

    def test_groups_that_do_not_cross(self):
        for groups in ([("s", ["a", "b"]), ("t", ["c", "d"])], [("s", ["a", "b"]), ("t", ["a", "b", "c"])],
                       [("t", ["a", "b", "c"]), ("s", ["b", "c"])]):
            self.same(Book(list("abcd"), groups).groups(), ["s", "t"])

    def test_unknown_name(self):
        book = Book(FIVE, NESTED)
        for value in NO_NAMES + ["f", "w", "ab", 5, object(), ("a", "b"), {"a": "a"}]:
            for method in (book.members, book.within, book.above):
                self.refuses(UnknownName, {"value": value}, method, value)
                self.refuses(UnknownName, {"value": value}, method, name=value)


if __name__ == "__main__":
    unittest.main()
