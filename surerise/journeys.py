"""Journeys of wholes, their values, heights of wholes, and rows along journeys."""

from surerise.ascents import are_journey_heights, best_run, journey_heights
from surerise.columns import columns, is_column_table
from surerise.errors import InvalidWalk, TooMany
from surerise.factsets import Facts
from surerise.guides import Guide, is_journey_of
from surerise.moves import check_few, free_moves, row_beside
from surerise.questions import Question
from surerise.values import gaps_of_journey, journey_of_run, value_at_journey

# How many gaps a journey may have for a row along it.
MOST_GAPS_OF_ROWS = 60


def is_journey(whole, value):
    """Whether a value is a journey for the whole."""
    return is_journey_of(Guide(whole.book, whole.asked(), Facts()), value)


def journey_gaps(whole, journey):
    """The number of gaps of a journey."""
    check_journey(whole, journey)
    return gaps_of_journey(journey)


def journey_value(whole, journey):
    """The value of a whole at a journey."""
    check_journey(whole, journey)
    return value_at_journey(whole, journey)


def whole_heights(whole):
    """Heights of a whole, None if there are none."""
    found = journey_heights(whole, moves_of(whole))
    if found is None:
        return None
    return {column: height for column, height in zip(columns(whole.book), found[0])}


def is_whole_heights(whole, value):
    """Whether a value is heights of a whole."""
    moves = moves_of(whole)
    if not is_column_table(whole.book, value):
        return False
    return are_journey_heights(whole, moves, [[value[column] for column in columns(whole.book)]])


def breaking_journey(whole):
    """A journey at which a whole has a value greater than 0, None if it is never above zero."""
    run = best_run(whole, moves_of(whole))
    return None if run is None else journey_of_run(whole, run)


def row_along(whole, journey):
    """A Row with the gaps and the letters of a journey, at which the value is greater than 0."""
    asked = whole.asked()
    check_few(asked, Question.MOST_NAMES)
    if journey_value(whole, journey) <= 0:
        raise InvalidWalk(journey)
    if journey_gaps(whole, journey) > MOST_GAPS_OF_ROWS:
        raise TooMany("gaps", MOST_GAPS_OF_ROWS)
    column, blocks = journey
    moves = [move for block, times in blocks for move in list(block) * times]
    return row_beside(whole, asked, [column] + [goal for _, goal in moves], [letter for letter, _ in moves])


def moves_of(whole):
    """All moves for the asked names of a whole, of which there must not be too many."""
    check_few(whole.asked(), Question.MOST_NAMES)
    return free_moves(whole.book, whole.asked())


def check_journey(whole, journey):
    """Refuses what is no journey for the whole."""
    if not is_journey(whole, journey):
        raise InvalidWalk(journey)
