"""Stores: series of values that were kept of a row, look by look."""

from surerise.basics import is_name
from surerise.errors import Entangled, InvalidSeries, OtherBook, UnknownName
from surerise.letters import filled_names
from surerise.questions import Question


class Store:
    """One to six series, questions without reading weights."""

    MOST_SERIES = 6

    def __init__(self, book, series):
        check_series(book, series)
        self._book = book
        self._series = {name: series[name] for name in sorted(list(series), key=str)}
        check_free(book, list(self._series.values()))

    @property
    def book(self):
        """The book of the store."""
        return self._book

    def names(self):
        """The sorted names of the series."""
        return list(self._series)

    def series(self, name):
        """The question of a series."""
        if not isinstance(name, str) or name not in self._series:
            raise UnknownName(name)
        return self._series[name]

    def told(self, row):
        """For each series the list of its values at the beginnings of a row."""
        if self._book != row.book:
            raise OtherBook()
        gaps = range(1, row.gaps + 1)
        asked = asked_by(self._book, list(self._series.values()))
        steps = {name: [row.step(name, gap) for gap in gaps] for name in asked}
        return {name: values_along(self._series[name], steps, row.gaps) for name in self._series}


def values_along(question, steps, gaps):
    """The values of a question at the beginnings of a row, steps being those of its names at all gaps."""
    weights = question.steps()
    # At the beginning with so many gaps, the last gap is the one with this number, which is counted from 1.
    return [
        sum([weights[name, ago] * steps[name][last - ago - 1] for name, ago in weights])
        for last in range(question.span, gaps + 1)
    ]


def check_series(book, series):
    """Refuses what is no dict from one to six NAMES to questions of the book with step weights alone."""
    if not isinstance(series, dict) or not 1 <= len(series) <= Store.MOST_SERIES:
        raise InvalidSeries(None)
    for name in series:
        if not is_name(name):
            raise InvalidSeries(name)
    for name in sorted(list(series), key=str):
        if not is_series(book, series[name]):
            raise InvalidSeries(name)


def is_series(book, value):
    """Whether a value is a question of the book that is not zero and has no reading weights."""
    return isinstance(value, Question) and value.book == book and bool(value) and not value.readings()


def asked_by(book, questions):
    """The names that some questions ask, in the order of the book."""
    asked = {name: True for question in questions for name in question.asked()}
    return [name for name in book.names() if name in asked]


def check_free(book, questions):
    """Refuses questions that together ask a name whose falls depend on those of its parts."""
    filled = filled_names(book, asked_by(book, questions))
    if filled:
        raise Entangled(filled[0])
