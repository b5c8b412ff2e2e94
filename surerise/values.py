"""Values of questions at walks, and of wholes at journeys, of which the letters may have further names."""

from surerise.climbs import gap_weights
from surerise.moves import worth_of_move


def value_at_walk(question, walk):
    """The value of a question at a walk of at least as many gaps as its span."""
    looks, letters = walk
    last = len(letters)
    total = 0
    for ago, weights in enumerate(gap_weights(question)):
        gap = last - ago
        total = total + worth_of_move(question.book, weights, looks[gap - 1], letters[gap - 1], looks[gap])
    counters = question.book.counters()
    readings = question.readings()
    return total + sum([readings[name, ago] * looks[last - ago][counters.index(name)] for name, ago in readings])


def value_at_journey(whole, journey):
    """The value of a whole at a journey."""
    column, blocks = journey
    total = value_of_look(whole.book, whole.firsts(), column)
    for moves, times in blocks:
        # A block that is done more than once ends where it begins, so it is worth the same each time.
        total = total + times * value_of_moves(whole, column, moves)
        column = moves[-1][1]
    return total + value_of_look(whole.book, whole.lasts(), column)


def value_of_moves(whole, column, moves):
    """The sum of the rise weights of a whole, each times the steps of its name, over moves from a column."""
    rises = whole.rises()
    total = 0
    for letter, goal in moves:
        total = total + worth_of_move(whole.book, rises, column, letter, goal)
        column = goal
    return total


def value_of_look(book, weights, column):
    """The sum of the weights of counters, each times the reading in a column."""
    counters = book.counters()
    return sum([weights[counter] * column[counters.index(counter)] for counter in weights])


def gaps_of_journey(journey):
    """The number of gaps of a journey."""
    return sum([len(moves) * times for moves, times in journey[1]])


def value_of_ring(whole, ring):
    """What the moves of a ring that come again and again are worth."""
    _, column, before, moves = ring
    return value_of_moves(whole, before[-1][1] if before else column, moves)


def journey_of_run(whole, run):
    """A journey at which a whole has a value greater than 0, by what best_run has found."""
    if run[0] == "journey":
        return run[1]
    _, column, before, moves = run
    ahead = [(before, 1)] if before else []
    once = value_at_journey(whole, (column, ahead + [(moves, 1)]))
    # Each further time is worth at least 1.
    return (column, ahead + [(moves, 1 + max(0, 1 - once))])
