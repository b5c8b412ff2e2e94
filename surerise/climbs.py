"""Climbs: the least heights that columns can have for a question or a whole, and the best ways from them.

The least height of a column is the greatest value of what begins there: of the rest of a walk of a question, or of a
journey of a whole without its first weights. Heights are lists with one for each column, in the order of the columns.
"""

from surerise.columns import column_sums, columns
from surerise.moves import Moves


def gap_weights(question):
    """For each gap of the span, the last one first, the tuple of the step weights of the asked names."""
    asked = question.asked()
    steps = question.steps()
    return [tuple([steps.get((name, ago), 0) for name in asked]) for ago in range(question.span)]


def gap_worths(question, moves):
    """For each gap of the span, the last one first, the worths of moves with its step weights."""
    gaps = gap_weights(question)
    # Many gaps of a rise have the same weights.
    worths = {}
    for weights in gaps:
        if weights not in worths:
            worths[weights] = moves.worths(weights)
    return [worths[weights] for weights in gaps]


def look_sums(question):
    """For each look of the span, the last one first, for each column the sum of the reading weights with it."""
    weights = [{} for _ in range(question.span + 1)]
    readings = question.readings()
    for counter, ago in readings:
        weights[ago][counter] = readings[counter, ago]
    return [column_sums(question.book, one) for one in weights]


def window_heights(question, moves):
    """For each look of the span, the first one first, the least heights."""
    sums = look_sums(question)
    found = [sums[0]]
    for worths, more in zip(gap_worths(question, moves), sums[1:]):
        found.append(heights_ahead(moves, worths, more, found[-1]))
    return found[::-1]


def heights_ahead(moves, worths, more, beyond):
    """The least heights at a look, where each column counts for more, ahead of a gap with known heights beyond."""
    return [one + height for one, height in zip(more, moves.climb(worths, beyond))]


def greatest_value(question):
    """The greatest value of a question at its walks."""
    return max(window_heights(question, Moves(question.book, question.asked()))[0], key=int)


def greatest_path(question):
    """A walk of a question with its greatest value."""
    moves = Moves(question.book, question.asked())
    found = window_heights(question, moves)
    number = found[0].index(max(found[0], key=int))
    numbers = [number]
    letters = []
    for weights, beyond in zip(gap_weights(question)[::-1], found[1:]):
        letter, number = moves.best_move(weights, beyond, number)
        letters.append(letter)
        numbers.append(number)
    every = columns(question.book)
    return ([every[at] for at in numbers], letters)


def rise_weights(whole):
    """The tuple of the rise weights of the asked names."""
    rises = whole.rises()
    return tuple([rises[name] for name in whole.asked()])


def journey_heights(whole, moves):
    """The least heights for journeys of up to 0, 1, 2 .. moves, as long as one more move helps some column.

    If it still helps with as many moves as there are columns, moves can go round in a ring and gain each time.
    """
    worths = moves.worths(rise_weights(whole))
    ending = column_sums(whole.book, whole.lasts())
    found = [ending]
    for _ in range(len(ending)):
        # Staying without a fall is worth nothing, so no height gets less.
        higher = moves.climb(worths, found[-1])
        if higher == found[-1]:
            return found
        found.append(higher)
    return found


def has_ring(found):
    """Whether the heights for more and more moves never end."""
    return len(found) > len(found[0])


def starting_values(whole, found):
    """For each column the greatest value of a journey from there, if there is no ring."""
    opening = column_sums(whole.book, whole.firsts())
    return [first + height for first, height in zip(opening, found[-1])]


def is_ever_above_zero(whole):
    """Whether a whole has a value greater than 0 at some journey."""
    found = journey_heights(whole, Moves(whole.book, whole.asked()))
    return has_ring(found) or max(starting_values(whole, found), key=int) > 0


def best_path(whole, moves, found, number):
    """The numbers of the columns and the letters of a journey from a column, which has its greatest height."""
    weights = rise_weights(whole)
    numbers = [number]
    letters = []
    for higher, lower in list(zip(found[1:], found))[::-1]:
        # Where the last move does not help, the rest of the journey is as good without it.
        if higher[number] > lower[number]:
            letter, number = moves.best_move(weights, lower, number)
            letters.append(letter)
            numbers.append(number)
    return (numbers, letters)
