"""Questions and wholes under facts: whether they are never above one another, heights, and what breaks them."""

from surerise.ascents import are_journey_heights, best_run, is_ever_above_zero, journey_heights
from surerise.basics import is_count, is_integer, is_list
from surerise.climbs import are_window_heights, greatest_path, greatest_value, window_heights
from surerise.columns import columns, is_column
from surerise.errors import InvalidQuestion
from surerise.factsets import check_fact_names, reachable_states, turns_under
from surerise.guides import Guide, is_journey_of, is_walk_of
from surerise.letters import possible_letters
from surerise.moves import Moves, check_few, row_beside
from surerise.questions import Question
from surerise.rows import Row
from surerise.values import journey_of_run, value_at_journey, value_at_walk
from surerise.wholes import Whole


def is_below(one, other, facts):
    """Whether one question or whole is never above another one under facts."""
    check_alike(one, other)
    less = one - other
    moves = moves_of(less, facts)
    if isinstance(less, Question):
        return greatest_value(less, moves) == 0
    return not is_ever_above_zero(less, moves)


def greatest_under(question, facts):
    """The greatest value of a question at its walks under facts."""
    if not isinstance(question, Question):
        raise InvalidQuestion(question)
    return greatest_value(question, moves_of(question, facts))


def heights_under(expression, facts):
    """Heights of a question or a whole under facts, None if there are none."""
    moves = moves_of(expression, facts)
    keys = keys_of(expression.book, facts)
    if isinstance(expression, Whole):
        found = journey_heights(expression, moves)
        return None if found is None else table_of(keys, found)
    looks = window_heights(expression, moves)
    if max(looks[0][0], key=int) > 0:
        return None
    return [table_of(keys, look) for look in looks]


def is_heights_under(expression, facts, value):
    """Whether a value is heights of a question or a whole under facts."""
    book = expression.book
    moves = moves_of(expression, facts)
    keys = keys_of(book, facts)
    if isinstance(expression, Whole):
        return is_table(book, keys, value) and are_journey_heights(expression, moves, numbers_of(keys, value))
    if not is_list(value) or len(value) != expression.span + 1:
        return False
    if not all([is_table(book, keys, table) for table in value]):
        return False
    return are_window_heights(expression, moves, [numbers_of(keys, table) for table in value])


def breaking_under(expression, facts):
    """A Row or a journey that shows that an expression is above zero under facts, None if there is none."""
    names = names_under(expression.book, expression.asked(), facts)
    moves = moves_under(expression.book, names, facts)
    if isinstance(expression, Whole):
        run = best_run(expression, moves)
        return None if run is None else journey_of_run(expression, run)
    looks, letters = greatest_path(expression, moves)
    if value_at_walk(expression, (looks, letters)) == 0:
        return None
    return row_beside(expression, names, looks, letters)


def is_breaking_under(expression, facts, value):
    """Whether a value is a Row or a journey that shows that an expression is above zero under facts."""
    guide = guide_of(expression, facts)
    if isinstance(expression, Whole):
        return is_journey_of(guide, value) and value_at_journey(expression, value) > 0
    if not isinstance(value, Row) or value.book != expression.book or value.gaps < expression.span:
        return False
    return facts.keeps(value) and expression.at(value) > 0


def is_walk_under(question, facts, value):
    """Whether a value is a walk of a question under facts, of any number of gaps."""
    return is_walk_of(guide_of(question, facts), value)


def is_journey_under(whole, facts, value):
    """Whether a value is a journey of a whole under facts."""
    return is_journey_of(guide_of(whole, facts), value)


def are_alike(one, other):
    """Whether two values are two questions or two wholes."""
    if isinstance(one, Question):
        return isinstance(other, Question)
    return isinstance(one, Whole) and isinstance(other, Whole)


def check_alike(one, other):
    """Refuses another thing that is not of the kind of the first one, a question or a whole."""
    if not are_alike(one, other):
        raise InvalidQuestion(other)


def names_under(book, asked, facts):
    """The asked names and the names of the facts, of which there must not be too many."""
    check_fact_names(book, facts)
    more = facts.names()
    names = [name for name in book.names() if name in asked or name in more]
    check_few(names, Question.MOST_NAMES)
    return names


def moves_under(book, names, facts):
    """All moves under facts, for names among which are those of the facts."""
    return Moves(book, names, turns_under(facts, reachable_states(book, facts), possible_letters(book, names)))


def moves_of(expression, facts):
    """All moves for an expression under facts."""
    return moves_under(expression.book, names_under(expression.book, expression.asked(), facts), facts)


def guide_under(book, names, facts):
    """What tells whether walks and journeys with these names, and among them those of the facts, are right."""
    # Too many states are refused, although only those of a walk or a journey are needed.
    reachable_states(book, facts)
    return Guide(book, names, facts)


def guide_of(expression, facts):
    """What tells whether walks or journeys of an expression are right under facts."""
    return guide_under(expression.book, names_under(expression.book, expression.asked(), facts), facts)


def keys_of(book, facts):
    """For each state, as moves number them, the list of the tuples of a column and the state."""
    return [[(column, state) for column in columns(book)] for state in reachable_states(book, facts)]


def table_of(keys, found):
    """The dict from keys to heights."""
    return {key: height for row, heights in zip(keys, found) for key, height in zip(row, heights)}


def numbers_of(keys, table):
    """The heights of a dict from keys, in the sequence of the keys."""
    return [[table[key] for key in row] for row in keys]


def is_table(book, keys, value):
    """Whether a value is a dict from just these keys to INTEGERS."""
    if not isinstance(value, dict):
        return False
    wanted = {key: True for row in keys for key in row}
    # Keys with True in the place of 1 are found, too, so each key is looked at.
    right = [is_key(book, key) and key in wanted and is_integer(value[key]) for key in value]
    return len(right) == len(wanted) and all(right)


def is_key(book, value):
    """Whether a value is a tuple of a column and a tuple of COUNTS."""
    if not isinstance(value, tuple) or len(value) != 2:
        return False
    column, state = value
    return is_column(book, column) and isinstance(state, tuple) and all([is_count(count) for count in state])
