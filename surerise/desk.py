"""Desks: questions, rows and facts under names, and lines that change them or ask about them."""

from surerise.answers import asked_answer, size_answer
from surerise.basics import is_name
from surerise.errors import CommandFailed, InvalidName, InvalidThing, LimitError, MissingError, NothingToUndo
from surerise.errors import RiseError, UnknownName
from surerise.facts import Fact
from surerise.lines import PUTTING, kind_of, thing_of, words_of
from surerise.questions import Question
from surerise.rows import Row


class Record:
    """What a desk has at one time: its things, those ahead of each change that it remembers, and its log.

    A record never changes, so a desk goes back by taking an earlier one.
    """

    def __init__(self, things, past, lines):
        self.things = things
        self.past = past
        self.lines = lines


class Desk:
    """Questions, rows and facts under names, with the last changes, which can be taken back."""

    MOST_CHANGES = 20

    def __init__(self, book):
        self._book = book
        self._now = Record({}, (), ())

    @property
    def book(self):
        """The book of the desk."""
        return self._book

    @property
    def changes(self):
        """How many changes are remembered."""
        return len(self._now.past)

    def names(self):
        """The sorted names of the things."""
        return sorted(list(self._now.things), key=str)

    def named(self, name):
        """The thing with a name."""
        if name not in self:
            raise UnknownName(name)
        return self._now.things[name]

    def log(self):
        """The lines that were done, and were changes or undo."""
        return list(self._now.lines)

    def do(self, line):
        """Does what a line says, and returns the answer."""
        word, *rest = words_of(line)
        if word in PUTTING:
            answer = self._put_text(word, rest[0], rest[1])
        elif word == "drop":
            answer = self._drop_named(rest[0])
        elif word == "undo":
            self.undo()
            answer = "undone"
        else:
            return asked_answer(self, word, rest)
        self._now = Record(self._now.things, self._now.past, self._now.lines + (line,))
        return answer

    def do_all(self, *lines):
        """Does all lines, and returns their answers; if one is refused, none of them is done."""
        before = self._now
        answers = []
        for position, line in enumerate(lines):
            try:
                answers.append(self.do(line))
            except (RiseError, MissingError, LimitError) as error:
                self._now = before
                raise CommandFailed(position) from error
        return answers

    def tried(self, action):
        """Calls an action with the desk, and takes all back that it does there."""
        before = self._now
        try:
            return action(self)
        finally:
            self._now = before

    def put(self, name, thing):
        """Puts a thing under a name."""
        if not is_name(name):
            raise InvalidName(name)
        if not is_thing(self._book, thing):
            raise InvalidThing(thing)
        things = dict(self._now.things)
        things[name] = thing
        self._change(things)

    def drop(self, name):
        """Removes the thing with a name."""
        if name not in self:
            raise UnknownName(name)
        things = dict(self._now.things)
        del things[name]
        self._change(things)

    def undo(self):
        """Takes back the last change that is remembered."""
        past = self._now.past
        if not past:
            raise NothingToUndo()
        self._now = Record(past[-1], past[:-1], self._now.lines)

    def __setitem__(self, at, worth):
        self.put(at, worth)

    def __contains__(self, x):
        return isinstance(x, str) and x in self._now.things

    def __len__(self):
        return len(self._now.things)

    def _put_text(self, word, name, text):
        if not is_name(name):
            raise InvalidName(name)
        thing = thing_of(self._book, word, text)
        # A fact with too many states is refused by this.
        answer = size_answer(self._book, thing)
        self.put(name, thing)
        return answer

    def _drop_named(self, name):
        kind = kind_of(self.named(name))
        self.drop(name)
        return f"dropped {kind}"

    def _change(self, things):
        past = self._now.past + (self._now.things,)
        self._now = Record(things, past[-Desk.MOST_CHANGES:], self._now.lines)


def is_thing(book, value):
    """Whether a value is a question or a row of the book, or a fact with names of the book."""
    if isinstance(value, Fact):
        return all([name in book for name in value.names()])
    return isinstance(value, (Question, Row)) and value.book == book
