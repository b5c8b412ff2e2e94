"""Questions: sums of steps and readings with integer weights, at the last gaps and looks of a row."""

from surerise.basics import is_count, is_integer
from surerise.books import check_known
from surerise.climbs import greatest_value
from surerise.errors import InvalidInteger, OtherBook, TooMany, TooShort
from surerise.moves import check_few, free_moves
from surerise.weights import added, in_order_of_pairs, multiplied


class Question:
    """Step weights and reading weights, dicts from tuples of a name and how long ago it is, without zeros."""

    MOST_NAMES = 6
    MOST_GAPS = 100

    def __init__(self, book, steps, readings):
        self._book = book
        self._steps = in_order_of_pairs(book, steps)
        self._readings = in_order_of_pairs(book, readings)
        self._span = span_of(steps, readings)

    @classmethod
    def zero(cls, book):
        """The question without weights."""
        return cls(book, {}, {})

    @classmethod
    def rising(cls, book, name, gaps):
        """The rise of a name over some gaps."""
        check_gaps(book, name, gaps)
        return cls(book, {(name, ago): 1 for ago in range(gaps)}, {})

    @classmethod
    def showing(cls, book, name):
        """The reading of a name."""
        return cls(book, {}, {(counter, 0): 1 for counter in book.members(name)})

    @classmethod
    def truth(cls, book, name, gaps):
        """The sum of the rises of the counters of a name over some gaps."""
        check_gaps(book, name, gaps)
        return cls(book, {(counter, ago): 1 for counter in book.members(name) for ago in range(gaps)}, {})

    @property
    def book(self):
        """The book of the question."""
        return self._book

    @property
    def span(self):
        """The least number of gaps that a row must have."""
        return self._span

    def steps(self):
        """The step weights."""
        return {key: self._steps[key] for key in self._steps}

    def readings(self):
        """The reading weights."""
        return {key: self._readings[key] for key in self._readings}

    def asked(self):
        """The names with step weights."""
        return list({name: True for name, _ in self._steps})

    def late(self, k):
        """The question about so many gaps earlier."""
        if not is_count(k):
            raise InvalidInteger(k)
        if bool(self) and self._span + k > Question.MOST_GAPS:
            raise TooMany("gaps", Question.MOST_GAPS)
        return Question(self._book, earlier(self._steps, k), earlier(self._readings, k))

    def at(self, row):
        """The value at a row."""
        if self._book != row.book:
            raise OtherBook()
        if row.gaps < self._span:
            raise TooShort(self._span)
        steps = [self._steps[name, ago] * row.step(name, row.gaps - ago) for name, ago in self._steps]
        shown = [self._readings[name, ago] * row.reading(name, row.gaps - ago) for name, ago in self._readings]
        return sum(steps) + sum(shown)

    def __call__(self, row):
        return self.at(row)

    def __bool__(self):
        return bool(self._steps) or bool(self._readings)

    def __eq__(self, other):
        if not isinstance(other, Question) or self._book != other._book:
            return False
        return self._steps == other._steps and self._readings == other._readings

    def __add__(self, other):
        if not isinstance(other, Question):
            return NotImplemented
        return summed(self, other, 1)

    def __sub__(self, other):
        if not isinstance(other, Question):
            return NotImplemented
        return summed(self, other, -1)

    def __neg__(self):
        return self * -1

    def __mul__(self, other):
        if not is_integer(other):
            raise InvalidInteger(other)
        return Question(self._book, multiplied(self._steps, other), multiplied(self._readings, other))

    def __rmul__(self, other):
        return self * other

    def __le__(self, other):
        if not isinstance(other, Question):
            return NotImplemented
        return is_never_above(self, other)

    def __ge__(self, other):
        if not isinstance(other, Question):
            return NotImplemented
        return is_never_above(other, self)


def span_of(steps, readings):
    """The least number of gaps of a row that has all these gaps and looks."""
    return max([0] + [ago + 1 for _, ago in steps] + [ago for _, ago in readings], key=int)


def check_gaps(book, name, gaps):
    """Refuses a name that the book does not have, and a number of gaps that is not from 1 to 100."""
    check_known(book, name)
    if not is_integer(gaps) or gaps < 1:
        raise InvalidInteger(gaps)
    if gaps > Question.MOST_GAPS:
        raise TooMany("gaps", Question.MOST_GAPS)


def earlier(weights, k):
    """The weights, each so many gaps or looks further ago."""
    return {(name, ago + k): weights[name, ago] for name, ago in weights}


def summed(one, other, times):
    """One question, and the other one times a number."""
    if one.book != other.book:
        raise OtherBook()
    steps = added(one.steps(), other.steps(), times)
    return Question(one.book, steps, added(one.readings(), other.readings(), times))


def is_never_above(one, other):
    """Whether one question is never above another one, for all rows."""
    less = one - other
    check_few(less.asked(), Question.MOST_NAMES)
    return greatest_value(less, free_moves(less.book, less.asked())) == 0
