"""Rows: the readings of all counters of a book, look by look."""

from surerise.basics import is_count, is_integer, is_list
from surerise.books import check_known
from surerise.errors import InvalidGap, InvalidInteger, InvalidLook, InvalidLooks
from surerise.errors import NoJoin, OtherBook, OtherLength


class Row:
    """One or more looks, each with a reading for every counter."""

    def __init__(self, book, looks):
        if not is_list(looks) or len(looks) == 0:
            raise InvalidLooks(looks)
        for number, look in enumerate(looks):
            if not is_look(book, look):
                raise InvalidLook(number)
        self._book = book
        self._looks = [list(look) for look in looks]

    @property
    def book(self):
        """The book of the row."""
        return self._book

    @property
    def gaps(self):
        """The number of gaps."""
        return len(self._looks) - 1

    def looks(self):
        """For each look the list of the readings of all counters."""
        return [list(look) for look in self._looks]

    def reading(self, name, look):
        """The reading of a name at a look."""
        check_known(self._book, name)
        check_look(look, len(self._looks))
        return self._total(name, look)

    def falls(self, name, gap):
        """Whether a name falls at a gap."""
        ahead, behind = self._around(name, gap)
        return behind < ahead

    def step(self, name, gap):
        """By how much a name must have risen at a gap."""
        ahead, behind = self._around(name, gap)
        return behind if behind < ahead else behind - ahead

    def rise(self, name, first, last):
        """The sum of the steps of a name between two looks."""
        # An unknown name is refused also where there are no gaps between the looks.
        check_known(self._book, name)
        self._check_part(first, last)
        return sum([self.step(name, gap) for gap in range(first + 1, last + 1)])

    def then(self, other):
        """The row that goes on with another one, which begins where this one ends."""
        if self._book != other._book:
            raise OtherBook()
        if self._looks[-1] != other._looks[0]:
            raise NoJoin()
        return Row(self._book, self._looks + other._looks[1:])

    def cut(self, first, last):
        """The row of the looks from first to last."""
        self._check_part(first, last)
        return Row(self._book, self._looks[first:last + 1])

    def __len__(self):
        return len(self._looks)

    def __getitem__(self, at):
        name, look = at
        return self.reading(name, look)

    def __iter__(self):
        raise TypeError("a row is not iterated over; take its looks")

    def __eq__(self, other):
        return isinstance(other, Row) and self._book == other._book and self._looks == other._looks

    def __add__(self, other):
        if not isinstance(other, Row):
            return NotImplemented
        if self._book != other._book:
            raise OtherBook()
        if self.gaps != other.gaps:
            raise OtherLength(other.gaps)
        pairs = list(zip(self._looks, other._looks))
        return Row(self._book, [[one + two for one, two in zip(mine, theirs)] for mine, theirs in pairs])

    def __mul__(self, other):
        if not is_count(other):
            raise InvalidInteger(other)
        return Row(self._book, [[reading * other for reading in look] for look in self._looks])

    def __rmul__(self, other):
        return self * other

    def _total(self, name, look):
        readings = self._looks[look]
        return sum([readings[place] for place in self._book.places(name)])

    def _around(self, name, gap):
        check_known(self._book, name)
        check_gap(gap, self.gaps)
        return (self._total(name, gap - 1), self._total(name, gap))

    def _check_part(self, first, last):
        check_look(first, len(self._looks))
        check_look(last, len(self._looks))
        if last < first:
            raise InvalidLook(last)


def is_look(book, value):
    """Whether a value is a list with a COUNT for each counter."""
    return is_list(value) and len(value) == len(book) and all([is_count(reading) for reading in value])


def check_look(value, many):
    """Refuses what is not the number of one of so many looks."""
    if not is_count(value) or value >= many:
        raise InvalidLook(value)


def check_gap(value, gaps):
    """Refuses what is not the number of one of so many gaps."""
    if not is_integer(value) or not 1 <= value <= gaps:
        raise InvalidGap(value)
