"""Journeys of wholes, their values, heights of wholes, and rows along journeys."""

from surerise.basics import is_integer, is_list
from surerise.climbs import best_path, has_ring, journey_heights, rise_weights, starting_values
from surerise.columns import column_sums, columns, is_column, is_column_table
from surerise.errors import InvalidWalk, TooMany
from surerise.letters import filled_parts
from surerise.moves import Moves, check_few, is_move, row_beside, worth_of_move
from surerise.questions import Question

# How many gaps a journey may have for a row along it.
MOST_GAPS_OF_ROWS = 60


def is_journey(whole, value):
    """Whether a value is a journey for the whole."""
    if not isinstance(value, tuple) or len(value) != 2:
        return False
    column, blocks = value
    if not is_column(whole.book, column) or not is_list(blocks):
        return False
    asked = whole.asked()
    filled = filled_parts(whole.book, asked)
    for block in blocks:
        if not is_block(block) or not are_moves(whole.book, filled, asked, column, block[0]):
            return False
        moves, times = block
        if times > 1 and moves[-1][1] != column:
            return False
        column = moves[-1][1]
    return True


def is_block(value):
    """Whether a value is a tuple of a list of at least one tuple of two things and an INTEGER from 1 on."""
    if not isinstance(value, tuple) or len(value) != 2:
        return False
    moves, times = value
    if not is_list(moves) or len(moves) == 0 or not is_integer(times) or times < 1:
        return False
    return all([isinstance(move, tuple) and len(move) == 2 for move in moves])


def are_moves(book, filled, asked, column, moves):
    """Whether tuples of two things are moves, one after another from a column on."""
    for letter, goal in moves:
        if not is_column(book, goal) or not is_move(book, filled, asked, column, letter, goal):
            return False
        column = goal
    return True


def journey_gaps(whole, journey):
    """The number of gaps of a journey."""
    check_journey(whole, journey)
    return sum([len(moves) * times for moves, times in journey[1]])


def journey_value(whole, journey):
    """The value of a whole at a journey."""
    check_journey(whole, journey)
    column, blocks = journey
    rises = whole.rises()
    total = worth_of_look(whole.book, whole.firsts(), column)
    for moves, times in blocks:
        # A block that is done more than once begins where it ends, so it is worth the same each time.
        for letter, goal in moves:
            total = total + times * worth_of_move(whole.book, rises, column, letter, goal)
            column = goal
    return total + worth_of_look(whole.book, whole.lasts(), column)


def worth_of_look(book, weights, column):
    """The sum of the weights of counters, each times the reading in a column."""
    counters = book.counters()
    return sum([weights[counter] * column[counters.index(counter)] for counter in weights])


def whole_heights(whole):
    """Heights of a whole, None if there are none."""
    check_whole(whole)
    found = journey_heights(whole, Moves(whole.book, whole.asked()))
    if has_ring(found) or max(starting_values(whole, found), key=int) > 0:
        return None
    return {column: height for column, height in zip(columns(whole.book), found[-1])}


def is_whole_heights(whole, value):
    """Whether a value is heights of a whole."""
    check_whole(whole)
    if not is_column_table(whole.book, value):
        return False
    given = [value[column] for column in columns(whole.book)]
    moves = Moves(whole.book, whole.asked())
    climbed = moves.climb(moves.worths(rise_weights(whole)), given)
    lasts = column_sums(whole.book, whole.lasts())
    firsts = column_sums(whole.book, whole.firsts())
    high = all([have >= last and have >= more for have, last, more in zip(given, lasts, climbed)])
    return high and all([first + have <= 0 for first, have in zip(firsts, given)])


def breaking_journey(whole):
    """A journey at which a whole has a value greater than 0, None if it is never above zero."""
    check_whole(whole)
    moves = Moves(whole.book, whole.asked())
    found = journey_heights(whole, moves)
    if has_ring(found):
        return ring_journey(whole, moves, found)
    values = starting_values(whole, found)
    highest = max(values, key=int)
    if highest <= 0:
        return None
    numbers, letters = best_path(whole, moves, found, values.index(highest))
    return journey_along(whole.book, numbers, letters, 1)


def ring_journey(whole, moves, found):
    """A journey that goes round in a ring so often that the value is greater than 0."""
    rising = [number for number, height in enumerate(found[-1]) if height > found[-2][number]]
    numbers, letters = best_path(whole, moves, found, rising[0])
    # There are more looks than columns; leaving out what lies between two equal columns would lose value.
    last = [place for place, number in enumerate(numbers) if number in numbers[:place]][0]
    first = numbers.index(numbers[last])
    column = columns(whole.book)[numbers[last]]
    # Once round is worth at least 1, so this often outweighs what is lost at both ends.
    lost = [abs(worth_of_look(whole.book, weights, column)) for weights in (whole.firsts(), whole.lasts())]
    return journey_along(whole.book, numbers[first:last + 1], letters[first:last], 1 + sum(lost))


def journey_along(book, numbers, letters, times):
    """The journey along columns, told by their numbers, with these letters, so many times."""
    every = columns(book)
    moves = [(letter, every[number]) for letter, number in zip(letters, numbers[1:])]
    return (every[numbers[0]], [(moves, times)] if moves else [])


def row_along(whole, journey):
    """A Row with the gaps and the letters of a journey, at which the value is greater than 0."""
    check_whole(whole)
    if journey_value(whole, journey) <= 0:
        raise InvalidWalk(journey)
    if journey_gaps(whole, journey) > MOST_GAPS_OF_ROWS:
        raise TooMany("gaps", MOST_GAPS_OF_ROWS)
    column, blocks = journey
    moves = [move for block, times in blocks for move in list(block) * times]
    looks = [column] + [goal for _, goal in moves]
    return row_beside(whole, looks, [letter for letter, _ in moves])


def check_whole(whole):
    """Refuses a whole with too many asked names."""
    check_few(whole.asked(), Question.MOST_NAMES)


def check_journey(whole, journey):
    """Refuses what is no journey for the whole."""
    if not is_journey(whole, journey):
        raise InvalidWalk(journey)
