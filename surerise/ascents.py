"""Ascents: the least heights that columns can have for a whole, and the best ways from them.

Without its first weights, the least height of a column in a state is the greatest value of a journey from there.
Heights are lists with one list for each state, and there one height for each column, in the order of the columns.
A place is a tuple of the numbers of a state and of a column.
"""

from surerise.climbs import are_no_less
from surerise.columns import column_sums, columns


def ascent(whole, moves):
    """A tuple of heights and of ways, a dict from places to the letter and the goal of the move that raised them last.

    If the ways have no ring, these are the least heights, and the ways are the best ones. Otherwise a ring of ways is
    worth more than 0, and there are no least heights.
    """
    worths = moves.worths(whole.rises())
    ending = column_sums(whole.book, whole.lasts())
    heights = [ending] * moves.many_states()
    tops = [moves.tops(worths, ending)] * len(heights)
    sources = moves.sources()
    pending = [True] * len(heights)
    ways = {}
    while any(pending) and not ring_in(ways):
        # Next states mostly have later numbers, so that these should be settled first.
        for state in reversed(range(len(heights))):
            if not pending[state]:
                continue
            pending[state] = False
            climbed = moves.climb(worths, tops, state)
            higher = [number for number, height in enumerate(climbed) if height > heights[state][number]]
            for number in higher:
                ways[state, number] = moves.best_move(worths, tops, heights, state, number)
            if higher:
                heights[state] = [max(pair, key=int) for pair in zip(heights[state], climbed)]
                tops[state] = moves.tops(worths, heights[state])
                for source in sources[state]:
                    pending[source] = True
    return (heights, ways)


def ring_in(ways):
    """The places of a ring of ways, one behind another, an empty list if there is none."""
    done = {}
    for start in ways:
        passed = {}
        place = start
        while place in ways and place not in done and place not in passed:
            passed[place] = len(passed)
            place = ways[place][1]
        if place in passed:
            return list(passed)[passed[place]:]
        done.update(passed)
    return []


def starting_values(whole, heights):
    """For each column the greatest value of a journey from there, if these are the least heights."""
    opening = column_sums(whole.book, whole.firsts())
    return [first + height for first, height in zip(opening, heights[0])]


def is_ever_above_zero(whole, moves):
    """Whether a whole has a value greater than 0 at some journey."""
    heights, ways = ascent(whole, moves)
    return bool(ring_in(ways)) or max(starting_values(whole, heights), key=int) > 0


def journey_heights(whole, moves):
    """The least heights, None if there are no heights."""
    heights, ways = ascent(whole, moves)
    if ring_in(ways) or max(starting_values(whole, heights), key=int) > 0:
        return None
    return heights


def are_journey_heights(whole, moves, given):
    """Whether heights have the properties that they must have."""
    worths = moves.worths(whole.rises())
    tops = [moves.tops(worths, heights) for heights in given]
    ending = column_sums(whole.book, whole.lasts())
    if not are_no_less(given, [ending] * len(given)):
        return False
    climbed = [moves.climb(worths, tops, state) for state in range(len(given))]
    return are_no_less(given, climbed) and max(starting_values(whole, given), key=int) <= 0


def best_run(whole, moves):
    """Where a whole goes above zero, None if it does so nowhere.

    It is ("ring", column, before, moves) with moves that are worth more than 0, or ("journey", journey) with a value
    greater than 0. Of the ring no place comes twice, and neither of the journey.
    """
    heights, ways = ascent(whole, moves)
    every = columns(whole.book)
    ring = ring_in(ways)
    if ring:
        state, number = ring[0]
        # Each state is reached from the first one without leaving a column.
        before = [(letter, every[number]) for letter in moves.letters_to(state)]
        return ("ring", every[number], before, [move_of(every, ways[place]) for place in ring])
    values = starting_values(whole, heights)
    highest = max(values, key=int)
    if highest <= 0:
        return None
    place = (0, values.index(highest))
    found = []
    while place in ways:
        found.append(move_of(every, ways[place]))
        place = ways[place][1]
    return ("journey", (every[values.index(highest)], [(found, 1)] if found else []))


def move_of(every, way):
    """The letter of a way, and the column where it leads."""
    letter, (_, number) = way
    return (letter, every[number])
