"""Drafts: rows in the making, which remember all their changes, and trials of them."""

from surerise.basics import is_count
from surerise.errors import AboveCeiling, EmptyDraft, InvalidInteger, InvalidLook
from surerise.errors import NothingToUndo, UnknownName
from surerise.rows import Row, check_look, is_look


class Moment:
    """What a draft holds at one time; before is the moment ahead of the last change.

    A moment never changes, so drafts and trials share moments instead of copying them.
    """

    def __init__(self, table, limit, before):
        self.table = table
        self.limit = limit
        self.before = before


class Draft:
    """A row in the making, without looks at first."""

    def __init__(self, book, *, ceiling=None):
        check_ceiling(ceiling)
        self._book = book
        self._now = Moment((), ceiling, None)

    @property
    def book(self):
        """The book of the draft."""
        return self._book

    @property
    def ceiling(self):
        """The greatest reading that is possible, None if all are."""
        return self._now.limit

    @ceiling.setter
    def ceiling(self, value):
        self.cap(value)

    def cap(self, value):
        """Changes the ceiling."""
        check_ceiling(value)
        for look, readings in enumerate(self._now.table):
            check_heights(self._book, readings, look, value)
        self._change(self._now.table, value)

    def add(self, readings):
        """Adds a look."""
        table = self._now.table
        if not is_look(self._book, readings):
            raise InvalidLook(len(table))
        check_heights(self._book, readings, len(table), self._now.limit)
        self._change(table + (tuple(readings),), self._now.limit)

    def put(self, name, look, value):
        """Changes the reading of a counter at a look."""
        counters = self._book.counters()
        if name not in self._book or name not in counters:
            raise UnknownName(name)
        check_look(look, len(self._now.table))
        if not is_count(value):
            raise InvalidInteger(value)
        if is_above(value, self._now.limit):
            raise AboveCeiling(name, look)
        readings = list(self._now.table[look])
        readings[counters.index(name)] = value
        table = list(self._now.table)
        table[look] = tuple(readings)
        self._change(tuple(table), self._now.limit)

    def drop(self):
        """Removes the last look."""
        table = self._now.table
        if not table:
            raise EmptyDraft()
        self._change(table[:-1], self._now.limit)

    def undo(self):
        """Takes back the last change that has not been taken back."""
        if self._now.before is None:
            raise NothingToUndo()
        self._now = self._now.before

    def row(self):
        """The Row with the looks of the draft."""
        if not self._now.table:
            raise EmptyDraft()
        return Row(self._book, self._now.table)

    def copy(self):
        """A draft that is like this one, and changes by itself."""
        twin = Draft(self._book)
        twin._now = self._now
        return twin

    def __len__(self):
        return len(self._now.table)

    def __iadd__(self, other):
        self.add(other)
        return self

    def __setitem__(self, at, worth):
        name, look = at
        self.put(name, look, worth)

    def _change(self, table, limit):
        self._now = Moment(table, limit, self._now)


class Mark:
    """Where a trial began; outer is the mark of the same trial around it, if there is one."""

    def __init__(self, moment, outer):
        self.moment = moment
        self.outer = outer


class Trial:
    """A context manager behind which a draft is as it was ahead of the block."""

    def __init__(self, draft):
        self._draft = draft
        self._mark = None

    def __enter__(self):
        self._mark = Mark(self._draft._now, self._mark)
        return self._draft

    def __exit__(self, kind, value, trace):
        draft = self._draft
        draft._now = self._mark.moment
        self._mark = self._mark.outer


def tried(draft, action):
    """Calls an action with the draft, and takes all back that it does there."""
    with Trial(draft) as held:
        return action(held)


def check_ceiling(value):
    """Refuses what is neither None nor a COUNT."""
    if value is not None and not is_count(value):
        raise InvalidInteger(value)


def check_heights(book, readings, look, limit):
    """Refuses the readings of a look if one is above the limit."""
    for counter, reading in zip(book.counters(), readings):
        if is_above(reading, limit):
            raise AboveCeiling(counter, look)


def is_above(reading, limit):
    """Whether there is a limit, and a reading is above it."""
    return limit is not None and reading > limit
