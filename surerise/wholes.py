"""Wholes: questions about rows of any length."""

from surerise.ascents import is_ever_above_zero
from surerise.basics import is_integer
from surerise.books import check_known
from surerise.errors import InvalidInteger, OtherBook
from surerise.moves import check_few, free_moves
from surerise.questions import Question
from surerise.weights import added, in_order_of_names, multiplied


class Whole:
    """Rise weights, first weights and last weights, dicts from names, without zeros."""

    def __init__(self, book, rises, firsts, lasts):
        self._book = book
        self._rises = in_order_of_names(book, rises)
        self._firsts = in_order_of_names(book, firsts)
        self._lasts = in_order_of_names(book, lasts)

    @classmethod
    def zero(cls, book):
        """The whole without weights."""
        return cls(book, {}, {}, {})

    @classmethod
    def rising(cls, book, name):
        """The rise of a name over all gaps."""
        check_known(book, name)
        return cls(book, {name: 1}, {}, {})

    @classmethod
    def opening(cls, book, name):
        """The reading of a name at look 0."""
        return cls(book, {}, {counter: 1 for counter in book.members(name)}, {})

    @classmethod
    def closing(cls, book, name):
        """The reading of a name at the last look."""
        return cls(book, {}, {}, {counter: 1 for counter in book.members(name)})

    @classmethod
    def net(cls, book, name):
        """The reading of a name at the last look minus that at look 0."""
        return cls.closing(book, name) - cls.opening(book, name)

    @property
    def book(self):
        """The book of the whole."""
        return self._book

    def rises(self):
        """The rise weights."""
        return dict(self._rises)

    def firsts(self):
        """The first weights."""
        return dict(self._firsts)

    def lasts(self):
        """The last weights."""
        return dict(self._lasts)

    def asked(self):
        """The names with rise weights."""
        return list(self._rises)

    def at(self, row):
        """The value at a row."""
        if self._book != row.book:
            raise OtherBook()
        rises = [self._rises[name] * row.rise(name, 0, row.gaps) for name in self._rises]
        firsts = [self._firsts[name] * row.reading(name, 0) for name in self._firsts]
        lasts = [self._lasts[name] * row.reading(name, row.gaps) for name in self._lasts]
        return sum(rises) + sum(firsts) + sum(lasts)

    def __call__(self, row):
        return self.at(row)

    def __bool__(self):
        return bool(self._rises) or bool(self._firsts) or bool(self._lasts)

    def __eq__(self, other):
        if not isinstance(other, Whole) or self._book != other._book:
            return False
        return self._rises == other._rises and self._firsts == other._firsts and self._lasts == other._lasts

    def __add__(self, other):
        if not isinstance(other, Whole):
            return NotImplemented
        return summed(self, other, 1)

    def __sub__(self, other):
        if not isinstance(other, Whole):
            return NotImplemented
        return summed(self, other, -1)

    def __neg__(self):
        return self * -1

    def __mul__(self, other):
        if not is_integer(other):
            raise InvalidInteger(other)
        rises = multiplied(self._rises, other)
        return Whole(self._book, rises, multiplied(self._firsts, other), multiplied(self._lasts, other))

    def __rmul__(self, other):
        return self * other

    def __le__(self, other):
        if not isinstance(other, Whole):
            return NotImplemented
        return is_never_above(self, other)

    def __ge__(self, other):
        if not isinstance(other, Whole):
            return NotImplemented
        return is_never_above(other, self)


def summed(one, other, times):
    """One whole, and the other one times a number."""
    if one.book != other.book:
        raise OtherBook()
    rises = added(one.rises(), other.rises(), times)
    firsts = added(one.firsts(), other.firsts(), times)
    return Whole(one.book, rises, firsts, added(one.lasts(), other.lasts(), times))


def is_never_above(one, other):
    """Whether one whole is never above another one, for rows of all lengths."""
    less = one - other
    check_few(less.asked(), Question.MOST_NAMES)
    return not is_ever_above_zero(less, free_moves(less.book, less.asked()))
