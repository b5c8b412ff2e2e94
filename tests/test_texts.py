import re
import unittest

from surerise.books import Book
from surerise.errors import InvalidText
from surerise.rows import Row
from surerise.texts import book_text, read_book, read_row, row_text
from tests.support import Case

BOOK = Book(["a", "b"], [("s", ["a", "b"])])
ALL = ["e", "d1", "c", "b", "a"]
FIVE = Book(ALL, [("z", ["a", "e", "b"]), ("y", ["c", "d1"]), ("all", ALL)])
FIVE_TEXT = (
    "counter e\ncounter d1\ncounter c\ncounter b\ncounter a\n"
    "group all e d1 c b a\ngroup y d1 c\ngroup z e b a\n"
)
FORTY = "1" + "0" * 39
NO_STRINGS = [None, True, 0, 5, b"counter a\n", ["counter a\n"], ("counter a\n",), {}, {"counter a\n": 1}, BOOK]
SIGNS = "\n abs012~-"
NAME = "[a-z][a-z0-9]{0,7}"


def right_book_lines(lines):
    """Whether lines are the text of a book, told in another way than the package does."""
    counters, groups = [], {}
    for line in lines:
        words = line.split(" ")
        if re.fullmatch(f"counter {NAME}", line) and not groups:
            if words[1] in counters or len(counters) == 5:
                return False
            counters.append(words[1])
        elif re.fullmatch(f"group {NAME}( {NAME}){{2,5}}", line):
            name, members = words[1], words[2:]
            if name in counters or any(name <= other for other in groups):
                return False
            if [c for c in counters if c in members] != members:
                return False
            for other in groups.values():
                if set(members) == set(other) or not (
                    set(members) <= set(other) or set(other) <= set(members) or not set(members) & set(other)
                ):
                    return False
            groups[name] = members
        else:
            return False
    return len(lines) > 0


def right_row_lines(many, lines):
    number = "(0|[1-9][0-9]{0,39})"
    return len(lines) > 0 and all(re.fullmatch(f"look( {number}){{{many}}}", line) for line in lines)


def wrong_line(right, text):
    """The wrong line of a text, None if it has none: the lines are tried one after another."""
    lines = text.split("\n")
    for number in range(1, len(lines)):
        if not right(lines[:number]):
            return number
    if lines[-1] != "" or len(lines) == 1:
        return len(lines)
    return None


def changed_texts(text):
    """Texts with a sign or a line less, more or exchanged."""
    for at in range(len(text) + 1):
        yield text[:at]
        yield text[:at] + text[at + 1:]
        for sign in SIGNS:
            yield text[:at] + sign + text[at:]
            yield text[:at] + sign + text[at + 1:]
    lines = text.split("\n")[:-1]
    for one in range(len(lines)):
        yield "".join(line + "\n" for line in lines[:one] + lines[one + 1:])
        for two in range(len(lines)):
            yield "".join(line + "\n" for line in lines[:one] + [lines[two]] + lines[one:])
            swapped = list(lines)
            swapped[one], swapped[two] = lines[two], lines[one]
            yield "".join(line + "\n" for line in swapped)
        words = lines[one].split(" ")
        for at in range(len(words)):
            for other in (words[:at] + words[at + 1:], words[:at] + [words[at]] + words[at:], words[::-1]):
                yield "".join(line + "\n" for line in lines[:one] + [" ".join(other)] + lines[one + 1:])


class Books(Case):
    def test_written(self):
        self.same(book_text(BOOK), "counter a\ncounter b\ngroup s a b\n")
        self.same(book_text(book=Book(["x"])), "counter x\n")
        self.same(book_text(FIVE), FIVE_TEXT)

    def test_read_back(self):
        for book in (BOOK, FIVE, Book(["x"]), Book(["b", "a"], [("ab", ["a", "b"])])):
            self.same(read_book(book_text(book)) == book, True)
        self.same(read_book(text=FIVE_TEXT).counters(), ["e", "d1", "c", "b", "a"])

    def test_wrong_lines(self):
        cases = {
            "": 1, "\n": 1, "\n\n": 1, "counter a": 1, "counter": 1, "counter \n": 1, "counter\n": 1, "counter  a\n": 1,
            "counter a \n": 1, " counter a\n": 1, "counter a b\n": 1, "counter A\n": 1, "counter abcdefghi\n": 1,
            "Counter a\n": 1, "counter a\ncounter a\n": 2, "counter a\ncounter b": 2, "counter a\n\n": 2,
            "counter a\n\ncounter b\n": 2, "counter a\ngroup s a b\n": 2, "counter a\ngroup s a\n": 2, "group\n": 1,
            "group s a b\n": 1, "counter a\ngroup\n": 2, "counter a\nlook 1\n": 2, "x\n": 1, "look 1\n": 1,
            "counter a\ncounter b\ngroup s b a\n": 3, "counter a\ncounter b\ngroup b a b\n": 3,
            "counter a\ncounter b\ngroup s a b\ngroup s a b\n": 4, "counter a\ncounter b\ngroup s a b\ncounter c\n": 4,
            "counter a\ncounter b\ngroup s a b\ngroup t a b\n": 4, "counter a\ncounter b\ngroup s a b": 3,
            "counter a\ncounter b\ngroup s a a b\n": 3, "counter a\ncounter b\ngroup s a b \n": 3,
            "counter a\ncounter b\ngroup s a b\n\n": 4, "counter a\ncounter b\ngroup 1 a b\n": 3,
            "counter a\ncounter b\ngroup  a b\n": 3, "counter a\ncounter b\ngroups s a b\n": 3,
        }
        for text, line in cases.items():
            self.refuses(InvalidText, {"line": line}, read_book, text)
            self.refuses(InvalidText, {"line": line}, read_book, text=text)

    def test_wrong_lines_of_larger_books(self):
        start = "counter a\ncounter b\ncounter c\ncounter d\n"
        for rest, line in (
            ("group t a b\ngroup s c d\n", 6), ("group s a b\ngroup t b c\n", 6), ("group s a b c\ngroup t c d\n", 6),
            ("counter e\ncounter f\n", 6), ("counter e\ncounter f", 6), ("group s a b\nx", 6), ("group s a b\nx\ny", 6),
            ("group s b a\ngroup s", 5), ("group s2 a b\ngroup s10 c d\n", 6), ("x\ncounter a", 5),
        ):
            self.refuses(InvalidText, {"line": line}, read_book, start + rest)

    def test_changed_texts(self):
        for text in ("counter a\ncounter b\ngroup s a b\n", FIVE_TEXT):
            for changed in changed_texts(text):
                line = wrong_line(right_book_lines, changed)
                if line is None:
                    self.same(book_text(read_book(changed)), changed)
                else:
                    self.refuses(InvalidText, {"line": line}, read_book, changed)

    def test_no_strings(self):
        for value in NO_STRINGS:
            self.refuses(InvalidText, {"line": 0}, read_book, value)


class Rows(Case):
    def test_written(self):
        self.same(row_text(Row(BOOK, [[9, 5], [1, 6]])), "look 9 5\nlook 1 6\n")
        self.same(row_text(row=Row(Book(["a"]), [[0]])), "look 0\n")
        self.same(row_text(Row(BOOK, [[int(FORTY), 10]])), f"look {FORTY} 10\n")

    def test_read_back(self):
        for looks in ([[9, 5], [1, 6]], [[0, 0]], [[1, 2], [1, 2]], [[int(FORTY), 10 ** 40 - 1], [100, 0]]):
            row = Row(BOOK, looks)
            self.same(read_row(BOOK, row_text(row)) == row, True)
        row = read_row(text="look 1 2 3 4 5\n", book=FIVE)
        self.same(row.looks(), [[1, 2, 3, 4, 5]])
        self.assertEqual(row.book, FIVE)

    def test_wrong_lines(self):
        cases = {
            "": 1, "\n": 1, "look 9 5": 1, "look 9 5\nlook 1\n": 2, "look 9 5\nlook 1 6": 2, "look 9 5\n\n": 2,
            "look 9\n": 1, "look 9 5 1\n": 1, "look\n": 1, "look \n": 1, "look  9 5\n": 1, "look 9  5\n": 1,
            "look 9 5 \n": 1, " look 9 5\n": 1, "Look 9 5\n": 1, "looks 9 5\n": 1, "look 09 5\n": 1, "look 00 5\n": 1,
            "look -1 5\n": 1, "look +1 5\n": 1, "look 1.0 5\n": 1, "look 1_0 5\n": 1, "look a 5\n": 1, "look 9, 5\n": 1,
            f"look {FORTY} 1\nlook {FORTY}0 1\n": 2, f"look 0{FORTY} 1\n": 1, "look 1 2\ncounter a\n": 2,
            "look 1 2\nlook 1 2\nx": 3, "look 1 2\nx\nlook 1 2": 2, "counter a\n": 1, "look 9 5\n look 1 6\n": 2,
        }
        for text, line in cases.items():
            self.refuses(InvalidText, {"line": line}, read_row, BOOK, text)
            self.refuses(InvalidText, {"line": line}, read_row, text=text, book=BOOK)

    def test_changed_texts(self):
        for changed in changed_texts("look 9 50\nlook 0 6\nlook 10 6\n"):
            line = wrong_line(lambda lines: right_row_lines(2, lines), changed)
            if line is None:
                self.same(row_text(read_row(BOOK, changed)), changed)
            else:
                self.refuses(InvalidText, {"line": line}, read_row, BOOK, changed)

    def test_no_strings(self):
        for value in NO_STRINGS:
            self.refuses(InvalidText, {"line": 0}, read_row, BOOK, value)


if __name__ == "__main__":
    unittest.main()
