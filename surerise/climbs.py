"""Climbs: the least heights that columns can have for a question, and the best walks.

The least height of a column in a state is the greatest value of the rest of a walk from there. Heights of a look are
lists with one list for each state, and there one height for each column, in the order of the columns. Moves tell what
the states are, without facts just one.
"""

from surerise.columns import column_sums, columns


def gap_weights(question):
    """For each gap of the span, the last one first, a dict from names to their step weights there."""
    gaps = [{} for _ in range(question.span)]
    steps = question.steps()
    for name, ago in steps:
        gaps[ago][name] = steps[name, ago]
    return gaps


def gap_worths(question, moves):
    """For each gap of the span, the last one first, the worths of moves with its step weights."""
    keys = [tuple([(name, weights[name]) for name in weights]) for weights in gap_weights(question)]
    # Many gaps of a rise have the same weights.
    worths = {}
    for key in keys:
        if key not in worths:
            worths[key] = moves.worths({name: weight for name, weight in key})
    return [worths[key] for key in keys]


def look_sums(question):
    """For each look of the span, the last one first, for each column the sum of the reading weights with it."""
    weights = [{} for _ in range(question.span + 1)]
    readings = question.readings()
    for counter, ago in readings:
        weights[ago][counter] = readings[counter, ago]
    return [column_sums(question.book, one) for one in weights]


def window_heights(question, moves):
    """For each look of the span, the first one first, the least heights."""
    sums = look_sums(question)
    found = [[sums[0]] * moves.many_states()]
    for worths, more in zip(gap_worths(question, moves), sums[1:]):
        found.append(heights_ahead(moves, worths, more, found[-1]))
    return found[::-1]


def heights_ahead(moves, worths, more, beyond):
    """The least heights at a look, where each column counts for more, ahead of a gap with known heights beyond."""
    tops = [moves.tops(worths, heights) for heights in beyond]
    climbed = [moves.climb(worths, tops, state) for state in range(len(beyond))]
    return [[one + height for one, height in zip(more, heights)] for heights in climbed]


def are_window_heights(question, moves, given):
    """Whether heights for each look of the span, the first one first, have the properties that they must have."""
    sums = look_sums(question)
    behind = given[::-1]
    gaps = zip(gap_worths(question, moves), sums[1:], behind)
    needed = [[sums[0]] * moves.many_states()]
    needed = needed + [heights_ahead(moves, worths, more, beyond) for worths, more, beyond in gaps]
    high = all([are_no_less(have, least) for have, least in zip(behind, needed)])
    return high and max(given[0][0], key=int) <= 0


def are_no_less(given, least):
    """Whether each height is at least the one that is needed."""
    pairs = [pair for mine, theirs in zip(given, least) for pair in zip(mine, theirs)]
    return all([have >= need for have, need in pairs])


def greatest_value(question, moves):
    """The greatest value of a question at its walks."""
    return max(window_heights(question, moves)[0][0], key=int)


def greatest_path(question, moves):
    """A walk of a question with its greatest value."""
    found = window_heights(question, moves)
    state, number = (0, found[0][0].index(max(found[0][0], key=int)))
    numbers = [number]
    letters = []
    for worths, beyond in zip(gap_worths(question, moves)[::-1], found[1:]):
        tops = {goal: moves.tops(worths, beyond[goal]) for goal in moves.next_states(state)}
        letter, (state, number) = moves.best_move(worths, tops, beyond, state, number)
        letters.append(letter)
        numbers.append(number)
    every = columns(question.book)
    return ([every[at] for at in numbers], letters)
