"""Guides: whether walks and journeys follow the rules of their book and of facts, and where they lead.

A place is a tuple of a column and a state.
"""

from surerise.basics import is_integer, is_list
from surerise.columns import is_column
from surerise.factsets import first_state, is_allowed, next_state
from surerise.letters import agrees, filled_parts, fits, is_letter_of, rises_between


class Guide:
    """What moves are possible, for names in the order of the book, and among them the names of the facts."""

    def __init__(self, book, names, facts):
        self._book = book
        self._asked = names
        self._filled = filled_parts(book, names)
        self._rules = facts

    def start(self, column):
        """The place where a walk or a journey begins, None for any value that is no column."""
        return (column, first_state(self._rules)) if is_column(self._book, column) else None

    def behind(self, place, letter, goal):
        """The place behind a move, None for any values with which there is no such move."""
        column, state = place
        if not is_column(self._book, goal) or not is_letter_of(self._asked, letter) or not agrees(self._filled, letter):
            return None
        if not fits(rises_between(self._book, self._asked, column, goal), letter):
            return None
        if not is_allowed(self._rules, state, letter):
            return None
        return (goal, next_state(self._rules, state, letter))

    def behind_all(self, place, moves):
        """The place behind moves, one after another, None for any list of which not all elements are such moves."""
        for move in moves:
            if not isinstance(move, tuple) or len(move) != 2:
                return None
            letter, goal = move
            place = self.behind(place, letter, goal)
            if place is None:
                return None
        return place


def is_walk_of(guide, value):
    """Whether a value is a walk, of any number of gaps."""
    if not isinstance(value, tuple) or len(value) != 2:
        return False
    looks, letters = value
    if not is_list(looks) or not is_list(letters) or len(looks) != len(letters) + 1:
        return False
    place = guide.start(looks[0])
    return place is not None and guide.behind_all(place, list(zip(letters, looks[1:]))) is not None


def is_journey_of(guide, value):
    """Whether a value is a journey."""
    if not isinstance(value, tuple) or len(value) != 2:
        return False
    column, blocks = value
    place = guide.start(column)
    if place is None or not is_list(blocks):
        return False
    for block in blocks:
        if not is_block(block):
            return False
        moves, times = block
        goal = guide.behind_all(place, moves)
        if goal is None or (times > 1 and goal != place):
            return False
        place = goal
    return True


def is_block(value):
    """Whether a value is a tuple of a list with at least one element and an INTEGER from 1 on."""
    if not isinstance(value, tuple) or len(value) != 2:
        return False
    moves, times = value
    return is_list(moves) and len(moves) > 0 and is_integer(times) and times >= 1


def is_ring_of(guide, value):
    """Whether a value is a ring: ("ring", column, before, moves), and behind moves all is as ahead of them."""
    if not isinstance(value, tuple) or len(value) != 4:
        return False
    kind, column, before, moves = value
    if not isinstance(kind, str) or kind != "ring" or not is_list(before) or not is_list(moves) or len(moves) == 0:
        return False
    start = guide.start(column)
    place = guide.behind_all(start, before) if start is not None else None
    return place is not None and guide.behind_all(place, moves) == place
