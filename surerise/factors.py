"""Least factors by which one question or whole bounds another one, and what shows them.

A witness or an obstacle is a RUN: of questions a walk of as many gaps as the greater one of both spans, of wholes a
tuple ("journey", journey) or ("ring", column, before, moves).
"""

from surerise.ascents import best_run
from surerise.basics import is_ratio, ratio_of
from surerise.climbs import greatest_path
from surerise.errors import BelowZero, OtherBook, ZeroBound
from surerise.guides import is_journey_of, is_ring_of, is_walk_of
from surerise.questions import Question
from surerise.under import breaking_under, check_alike, guide_under, moves_under, names_under
from surerise.values import value_at_journey, value_at_walk, value_of_ring


def least_factor(one, other, facts):
    """The least RATIO by which other bounds one under facts, None if there is none."""
    ratio, _ = factor_and_run(one, other, facts)
    return ratio


def factor_evidence(one, other, facts):
    """A witness of the least factor, an obstacle if there is none."""
    _, run = factor_and_run(one, other, facts)
    return run


def is_witness(one, other, facts, ratio, value):
    """Whether a value is a witness of a ratio."""
    if not is_run(one, other, facts, value) or not is_ratio(ratio):
        return False
    numerator, denominator = ratio
    bound = value_of_run(other, value)
    return bound > 0 and denominator * value_of_run(one, value) == numerator * bound


def is_obstacle(one, other, facts, value):
    """Whether a value is an obstacle."""
    if not is_run(one, other, facts, value):
        return False
    return value_of_run(other, value) == 0 and value_of_run(one, value) > 0


def factor_and_run(one, other, facts):
    """The least factor and a witness of it, or None and an obstacle."""
    moves = shared_moves(one, other, facts)
    below = breaking_under(-other, facts)
    if below is not None:
        raise BelowZero(below)
    gaps = shared_gaps(one, other)
    if run_above(other, gaps, moves) is None:
        raise ZeroBound()
    obstacle = obstacle_of(one, other, gaps, moves)
    return least_and_witness(one, other, gaps, moves) if obstacle is None else (None, obstacle)


def run_for(one, other, facts, ratio):
    """A witness of a RATIO if it is the least factor, or of None an obstacle if there is none; None if this is not so.

    Other is never below zero.
    """
    moves = shared_moves(one, other, facts)
    gaps = shared_gaps(one, other)
    obstacle = obstacle_of(one, other, gaps, moves)
    if ratio is None:
        return obstacle
    # Where other is zero for all rows, nothing is a witness.
    if obstacle is not None or run_above(other, gaps, moves) is None:
        return None
    least, run = least_and_witness(one, other, gaps, moves)
    return run if least == ratio else None


def obstacle_of(one, other, gaps, moves):
    """An obstacle, None if there is none; other is never below zero."""
    # Where other is at least 1, so much of it is no less than one.
    return run_above(one - other * limit_of(one, moves), gaps, moves)


def least_and_witness(one, other, gaps, moves):
    """The least factor and a witness; there is no obstacle, and other is above zero somewhere, but never below it."""
    run = run_above(other, gaps, moves)
    while True:
        ratio = ratio_of(value_of_run(one, run), value_of_run(other, run))
        numerator, denominator = ratio
        # As there is no obstacle, other is above zero where this is so, and the ratio of both is greater there.
        higher = run_above(one * denominator - other * numerator, gaps, moves)
        if higher is None:
            return (ratio, run)
        run = higher


def run_above(expression, gaps, moves):
    """A run with a value greater than 0, of a question with so many gaps, None if there is none."""
    if not isinstance(expression, Question):
        return best_run(expression, moves)
    looks, letters = greatest_path(expression, moves)
    if value_at_walk(expression, (looks, letters)) == 0:
        return None
    # Staying without a fall is possible ahead of each walk, and changes no state.
    ahead = gaps - len(letters)
    return ([looks[0]] * ahead + looks, [()] * ahead + letters)


def limit_of(one, moves):
    """What no value of one is above, at walks, or at journeys and rings on which no place comes twice."""
    book = one.book
    if isinstance(one, Question):
        steps = one.steps()
        return sum([abs(steps[name, ago]) * len(book.places(name)) for name, ago in steps]) + size_of(one.readings())
    rises = one.rises()
    each = sum([abs(rises[name]) * len(book.places(name)) for name in rises])
    return (each * moves.many_states() << len(book)) + size_of(one.firsts()) + size_of(one.lasts())


def size_of(weights):
    """The sum of the weights without their signs."""
    return sum([abs(weights[key]) for key in weights])


def shared_gaps(one, other):
    """The greater one of the spans of two questions; 0 for two wholes."""
    return max(one.span, other.span, key=int) if isinstance(one, Question) else 0


def shared_names(one, other, facts):
    """The names of two questions or two wholes and of the facts."""
    check_alike(one, other)
    if one.book != other.book:
        raise OtherBook()
    return names_under(one.book, one.asked() + other.asked(), facts)


def shared_moves(one, other, facts):
    """All moves under facts for the names of two questions or two wholes."""
    return moves_under(one.book, shared_names(one, other, facts), facts)


def is_run(one, other, facts, value):
    """Whether a value is a run of two questions or two wholes under facts."""
    guide = guide_under(one.book, shared_names(one, other, facts), facts)
    if isinstance(one, Question):
        return is_walk_of(guide, value) and len(value[1]) == shared_gaps(one, other)
    if not isinstance(value, tuple) or len(value) != 2:
        return is_ring_of(guide, value)
    kind, journey = value
    return isinstance(kind, str) and kind == "journey" and is_journey_of(guide, journey)


def value_of_run(expression, run):
    """The value of a question or a whole at a run."""
    if isinstance(expression, Question):
        return value_at_walk(expression, run)
    return value_at_journey(expression, run[1]) if run[0] == "journey" else value_of_ring(expression, run)
