"""Walks of questions, their greatest values, heights, and rows that break a question."""

from surerise.basics import is_list
from surerise.climbs import gap_weights, gap_worths, greatest_path, greatest_value
from surerise.climbs import heights_ahead, look_sums, window_heights
from surerise.columns import columns, is_column, is_column_table
from surerise.errors import InvalidWalk
from surerise.letters import filled_parts
from surerise.moves import Moves, check_few, is_move, row_beside, worth_of_move
from surerise.questions import Question


def is_walk(question, value):
    """Whether a value is a walk for the question, of any number of gaps."""
    if not isinstance(value, tuple) or len(value) != 2:
        return False
    looks, letters = value
    if not is_list(looks) or not is_list(letters) or len(looks) != len(letters) + 1:
        return False
    book = question.book
    if not all([is_column(book, look) for look in looks]):
        return False
    asked = question.asked()
    filled = filled_parts(book, asked)
    gaps = zip(looks, letters, looks[1:])
    return all([is_move(book, filled, asked, before, letter, after) for before, letter, after in gaps])


def walk_value(question, walk):
    """The value of a question at a walk of as many gaps as its span."""
    if not is_walk(question, walk) or len(walk[1]) != question.span:
        raise InvalidWalk(walk)
    looks, letters = walk
    asked = question.asked()
    total = 0
    for ago, weights in enumerate(gap_weights(question)):
        gap = question.span - ago
        told = {name: weight for name, weight in zip(asked, weights) if weight != 0}
        total = total + worth_of_move(question.book, told, looks[gap - 1], letters[gap - 1], looks[gap])
    counters = question.book.counters()
    readings = question.readings()
    shown = [readings[name, ago] * looks[question.span - ago][counters.index(name)] for name, ago in readings]
    return total + sum(shown)


def greatest(question):
    """The greatest value of a question at its walks."""
    check_question(question)
    return greatest_value(question)


def greatest_walk(question):
    """A walk of as many gaps as the span with the greatest value."""
    check_question(question)
    return greatest_path(question)


def heights(question):
    """Heights of a question, None if there are none."""
    check_question(question)
    found = window_heights(question, Moves(question.book, question.asked()))
    if max(found[0], key=int) > 0:
        return None
    every = columns(question.book)
    return [{column: height for column, height in zip(every, look)} for look in found]


def is_heights(question, value):
    """Whether a value is heights of a question."""
    check_question(question)
    if not is_list(value) or len(value) != question.span + 1:
        return False
    if not all([is_column_table(question.book, table) for table in value]):
        return False
    every = columns(question.book)
    given = [[table[column] for column in every] for table in value][::-1]
    needed = needed_heights(question, given)
    pairs = [pair for have, need in zip(given, needed) for pair in zip(have, need)]
    return all([have >= need for have, need in pairs]) and all([height <= 0 for height in given[-1]])


def needed_heights(question, given):
    """For each look, the last one first, the least heights that agree with those given for the look behind it."""
    moves = Moves(question.book, question.asked())
    sums = look_sums(question)
    gaps = zip(gap_worths(question, moves), sums[1:], given)
    return [sums[0]] + [heights_ahead(moves, worths, more, beyond) for worths, more, beyond in gaps]


def breaking_row(question):
    """A Row of as many gaps as the span that breaks a question, None if there is none."""
    looks, letters = greatest_walk(question)
    if walk_value(question, (looks, letters)) == 0:
        return None
    return row_beside(question, looks, letters)


def breaks(question, row):
    """Whether a row breaks a question."""
    return question.at(row) > 0


def check_question(question):
    """Refuses a question with too many asked names."""
    check_few(question.asked(), Question.MOST_NAMES)
