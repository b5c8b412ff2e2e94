import itertools
import random
import unittest

from surerise.books import Book
from surerise.errors import InvalidFact, InvalidInteger, InvalidName, TakenName, UnknownName
from surerise.facts import Apart, AtMost, Fact, NeverFalls, NotBoth, OnlyWith
from surerise.letters import strict_row
from surerise.rows import Row
from tests import walking
from tests.support import NO_COUNTS, NO_LISTS, NO_NAMES, Case

BOOK = walking.BOOK
FORTY = "1234567890" * 4
EXAMPLES = [
    (OnlyWith("a", "b"), "a only with b", ["a", "b"]), (OnlyWith("s", "a"), "s only with a", ["s", "a"]),
    (NotBoth("b", "a"), "b not with a", ["b", "a"]), (NeverFalls("s"), "s never", ["s"]), (Apart("a", 3), "a apart 3", ["a"]),
    (Apart("x9", 1), "x9 apart 1", ["x9"]), (AtMost("s", 1), "s at most 1", ["s"]), (AtMost("b", 0), "b at most 0", ["b"]),
    (AtMost("longname", 10 ** 39), f"longname at most 1{'0' * 39}", ["longname"]),
    (Apart("a", int(FORTY)), f"a apart {FORTY}", ["a"]),
    (OnlyWith("only", "with"), "only only with with", ["only", "with"]), (NotBoth("never", "not"), "never not with not", ["never", "not"]),
    (AtMost("at", 3), "at at most 3", ["at"]), (NeverFalls("never"), "never never", ["never"]), (Apart("apart", 2), "apart apart 2", ["apart"]),
]


def row_with(letters):
    return strict_row(BOOK, ["a", "b", "s"], letters)


def falling(pattern, name="a"):
    """A row in which a name falls at the gaps with an x."""
    return strict_row(BOOK, [name], [(name,) if sign == "x" else () for sign in pattern])


class Texts(Case):
    def test_texts_both_ways(self):
        for fact, text, names in EXAMPLES:
            self.same([str(fact), fact.names()], [text, names])
            for found in (Fact.read(text), Fact.read(text=text)):
                self.assertIs(type(found), type(fact))
                self.same([found == fact, str(found), found.names()], [True, text, names])

    def test_made_by_name(self):
        for fact, again in (
            (OnlyWith(other="b", name="a"), OnlyWith("a", "b")), (NotBoth(other="b", name="a"), NotBoth("a", "b")),
            (NeverFalls(name="a"), NeverFalls("a")), (Apart(gaps=2, name="a"), Apart("a", 2)),
            (AtMost(falls=2, name="a"), AtMost("a", 2)),
        ):
            self.same(fact == again, True)
            self.assertIsInstance(fact, Fact)

    def test_names_are_new(self):
        fact = OnlyWith("a", "b")
        fact.names().clear()
        self.same(fact.names(), ["a", "b"])

    def test_equal(self):
        facts = [fact for fact, _, _ in EXAMPLES]
        facts += [OnlyWith("b", "a"), NotBoth("a", "b"), NeverFalls("a"), Apart("a", 1), AtMost("a", 1), AtMost("a", 3)]
        for (k, one), (m, other) in itertools.product(enumerate(facts), repeat=2):
            self.same([one == other, one != other], [k == m, k != m])
        for fact in facts:
            for other in (str(fact), fact.names(), None, 0, object(), BOOK):
                self.same([fact == other, other == fact], [False, False])

    def test_no_texts(self):
        wrong = NO_LISTS + [1, b"a never", ["a", "never"], "", " ", "a", "never", "a never ", " a never", "a  never", "a never\n"]
        wrong += ["A never", "1a never", "abcdefghi never", "a Never", "a nevers", "a never b", "a never 1", "-a never", "a,never"]
        wrong += ["a only with", "a only b", "a only with a", "a only with B", "a only with b c", "a with b", "only with b"]
        wrong += ["a not with", "a not with a", "a not b", "a not with 1", "a not with b ", "a Not with b", "a not only b"]
        wrong += ["a apart", "a apart 0", "a apart 00", "a apart 01", "a apart -1", "a apart +1", "a apart 1.0", "a apart x"]
        wrong += ["a apart 1 2", "a apart b", f"a apart {FORTY}1", "a at most", "a at most -1", "a at most 01", "a at most 1 ", "a at 1"]
        wrong += ["a most 1", "a at least 1", "a at most x", "at most 1", f"a at most {FORTY}1", "a at most 1\n", "a\tnever", "a only  b"]
        for text in wrong:
            self.refuses(InvalidFact, {"value": text}, Fact.read, text)

    def test_one_sign_otherwise(self):
        """A text with one sign otherwise is refused, or is the text of the fact that is read."""
        accepted = 0
        for fact, right, _ in EXAMPLES:
            if len(right) > 30:
                continue
            for at in range(len(right) + 1):
                for sign in " -+019abnyz\nA.":
                    for text in (right[:at] + sign + right[at:], right[:at] + sign + right[at + 1:], right[:at] + right[at + 1:]):
                        try:
                            found = Fact.read(text)
                        except InvalidFact as error:
                            self.same(error.value, text)
                        else:
                            accepted += 1
                            self.same([str(found), found == fact], [text, text == right])
        self.assertGreater(accepted, 100)


class Kept(Case):
    def test_only_with(self):
        fact = OnlyWith("a", "s")
        self.same(fact.keeps(row_with([("a", "s"), ("b",), (), ("a", "b", "s"), ("b", "s")])), True)
        self.same(fact.keeps(row=row_with([("a", "s"), ("a",)])), False)

    def test_not_both(self):
        fact = NotBoth("a", "b")
        self.same(fact.keeps(row_with([("a", "s"), ("b",), ()])), True)
        self.same(fact.keeps(row_with([("a", "s"), ("a", "b", "s"), ()])), False)

    def test_never(self):
        self.same(NeverFalls("s").keeps(row_with([("a",), ("b",), ()])), True)
        self.same(NeverFalls("s").keeps(row_with([("a",), ("b", "s"), ()])), False)
        self.same(NeverFalls("a").keeps(Row(BOOK, [[1, 1], [1, 0], [1, 0]])), True)

    def test_apart(self):
        for gaps, pattern, wanted in (
            (1, "xxxx", True), (2, "xx", False), (2, "x.x.x", True), (2, "x.xx", False), (3, "x..x..x", True), (3, "x..x.x", False),
            (3, ".x.x", False), (3, ".x..", True), (10 ** 30, "...x...", True), (10 ** 30, "x.....x", False), (5, "", True),
        ):
            self.same(Apart("a", gaps).keeps(falling(pattern)), wanted)

    def test_at_most(self):
        for falls, pattern, wanted in (
            (0, "...", True), (0, ".x.", False), (1, ".x.", True), (1, "x.x", False), (2, "x.x", True), (3, "xxx", True), (3, "xxxx", False),
            (0, "", True), (10 ** 30, "xxxx", True),
        ):
            self.same(AtMost("s", falls).keeps(falling(pattern, "s")), wanted)

    def test_rows_of_one_look(self):
        row = Row(BOOK, [[3, 4]])
        for fact in (OnlyWith("a", "b"), NotBoth("a", "s"), NeverFalls("a"), Apart("b", 4), AtMost("s", 0)):
            self.same(fact.keeps(row), True)

    def test_parts_of_rows_that_keep_facts_keep_them(self):
        numbers = random.Random(3)
        facts = [OnlyWith("s", "a"), NotBoth("a", "b"), NeverFalls("s"), Apart("s", 2), AtMost("a", 1)]
        for _ in range(200):
            row = walking.random_row(numbers, BOOK, 4, 2)
            for fact in facts:
                self.same(fact.keeps(row), self.kept(fact, row))
                if fact.keeps(row):
                    for first in range(5):
                        for last in range(first, 5):
                            self.same(fact.keeps(row.cut(first, last)), True)

    def kept(self, fact, row):
        """Whether a row keeps a fact, by its text."""
        name, word, *rest = str(fact).split(" ")
        at = {n: [gap for gap in range(1, row.gaps + 1) if row.falls(n, gap)] for n in BOOK.names()}
        if word == "only":
            return set(at[name]) <= set(at[rest[-1]])
        if word == "not":
            return not set(at[name]) & set(at[rest[-1]])
        if word == "apart":
            return all(two - one >= int(rest[0]) for one, two in itertools.combinations(at[name], 2))
        return len(at[name]) <= (int(rest[-1]) if word == "at" else 0)

    def test_unknown_names(self):
        row = Row(BOOK, [[3, 4]])
        for fact, name in (
            (OnlyWith("c", "d"), "c"), (OnlyWith("a", "d"), "d"), (NotBoth("c", "a"), "c"), (NotBoth("s", "t"), "t"),
            (NeverFalls("x"), "x"), (Apart("y", 2), "y"), (AtMost("z", 0), "z"),
        ):
            self.refuses(UnknownName, {"value": name}, fact.keeps, row)
        self.same(OnlyWith("b", "a").keeps(Row(Book(["b", "a"]), [[1, 1]])), True)


class Refused(Case):
    def test_names(self):
        for value in NO_NAMES:
            for made in (OnlyWith, NotBoth):
                self.refuses(InvalidName, {"value": value}, made, value, "a")
                self.refuses(InvalidName, {"value": value}, made, "a", value)
                self.refuses(InvalidName, {"value": value}, made, value, None)
            self.refuses(InvalidName, {"value": value}, NeverFalls, value)
            self.refuses(InvalidName, {"value": value}, Apart, value, 0)
            self.refuses(InvalidName, {"value": value}, AtMost, value, -1)

    def test_same_names(self):
        for made in (OnlyWith, NotBoth):
            self.refuses(TakenName, {"name": "a1"}, made, "a1", "a1")

    def test_numbers(self):
        for value in NO_COUNTS:
            self.refuses(InvalidInteger, {"value": value}, AtMost, "a", value)
        for value in NO_COUNTS + [0]:
            self.refuses(InvalidInteger, {"value": value}, Apart, "a", value)


if __name__ == "__main__":
    unittest.main()
