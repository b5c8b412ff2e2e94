"""Walks of questions, their greatest values, heights, and rows that break a question."""

from surerise.basics import is_list
from surerise.climbs import are_window_heights, greatest_path, greatest_value, window_heights
from surerise.columns import columns, is_column_table
from surerise.errors import InvalidWalk
from surerise.factsets import Facts
from surerise.guides import Guide, is_walk_of
from surerise.moves import check_few, free_moves, row_beside
from surerise.questions import Question
from surerise.values import value_at_walk


def is_walk(question, value):
    """Whether a value is a walk for the question, of any number of gaps."""
    return is_walk_of(Guide(question.book, question.asked(), Facts()), value)


def walk_value(question, walk):
    """The value of a question at a walk of as many gaps as its span."""
    if not is_walk(question, walk) or len(walk[1]) != question.span:
        raise InvalidWalk(walk)
    return value_at_walk(question, walk)


def greatest(question):
    """The greatest value of a question at its walks."""
    return greatest_value(question, moves_of(question))


def greatest_walk(question):
    """A walk of as many gaps as the span with the greatest value."""
    return greatest_path(question, moves_of(question))


def heights(question):
    """Heights of a question, None if there are none."""
    found = window_heights(question, moves_of(question))
    if max(found[0][0], key=int) > 0:
        return None
    every = columns(question.book)
    return [{column: height for column, height in zip(every, look[0])} for look in found]


def is_heights(question, value):
    """Whether a value is heights of a question."""
    moves = moves_of(question)
    if not is_list(value) or len(value) != question.span + 1:
        return False
    if not all([is_column_table(question.book, table) for table in value]):
        return False
    every = columns(question.book)
    return are_window_heights(question, moves, [[[table[column] for column in every]] for table in value])


def breaking_row(question):
    """A Row of as many gaps as the span that breaks a question, None if there is none."""
    walk = greatest_walk(question)
    if value_at_walk(question, walk) == 0:
        return None
    looks, letters = walk
    return row_beside(question, question.asked(), looks, letters)


def breaks(question, row):
    """Whether a row breaks a question."""
    return question.at(row) > 0


def moves_of(question):
    """All moves for the asked names of a question, of which there must not be too many."""
    check_few(question.asked(), Question.MOST_NAMES)
    return free_moves(question.book, question.asked())
