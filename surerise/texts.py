"""Books and rows as texts. A text is read only if it is exactly as it would be written."""

from surerise.basics import is_numeral
from surerise.books import Book
from surerise.errors import InvalidText, RiseError
from surerise.rows import Row


def book_text(book):
    """The text of a book."""
    lines = [f"counter {name}\n" for name in book.counters()]
    for name in book.groups():
        members = " ".join(book.members(name))
        lines.append(f"group {name} {members}\n")
    return "".join(lines)


def row_text(row):
    """The text of a row."""
    lines = []
    for look in row.looks():
        readings = " ".join([str(reading) for reading in look])
        lines.append(f"look {readings}\n")
    return "".join(lines)


def read_book(text):
    """The Book with a text."""
    counters = []
    groups = []
    begun = ""
    book = None
    for number, line in enumerate(whole_lines(text), start=1):
        begun = begun + line + "\n"
        add_words(counters, groups, line)
        book = book_of(counters, groups)
        # All lines up to here are right exactly if they are the text of what was read from them.
        if book is None or book_text(book) != begun:
            raise InvalidText(number)
    check_end(text)
    return book


def read_row(book, text):
    """The Row of a book with a text."""
    looks = []
    for number, line in enumerate(whole_lines(text), start=1):
        words = line.split(" ")
        numerals = words[1:]
        right = words[0] == "look" and len(numerals) == len(book)
        if not right or not all([is_numeral(word) for word in numerals]):
            raise InvalidText(number)
        looks.append([int(word) for word in numerals])
    check_end(text)
    return Row(book, looks)


def whole_lines(text):
    """The lines of a text that end with a line feed."""
    if not isinstance(text, str):
        raise InvalidText(0)
    return text.split("\n")[:-1]


def check_end(text):
    """Refuses a text without lines, or with a last line that has no line feed."""
    if not text.endswith("\n"):
        raise InvalidText(text.count("\n") + 1)


def add_words(counters, groups, line):
    """Notes what a line says; what is not written rightly is found when it is written again."""
    head, _, rest = line.partition(" ")
    if head == "counter":
        counters.append(rest)
    else:
        name, _, members = rest.partition(" ")
        groups.append((name, members.split(" ")))


def book_of(counters, groups):
    """The Book of these, None if there is none."""
    try:
        return Book(counters, groups)
    except RiseError:
        return None
