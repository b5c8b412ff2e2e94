"""Least sets of facts that are enough for a bound."""

from surerise.basics import is_list
from surerise.choices import all_sets
from surerise.errors import InvalidFact, TooMany
from surerise.facts import Fact
from surerise.factsets import Facts, reachable_states
from surerise.under import is_below, names_under

MOST_FACTS = 6


def least_sets(expression, facts):
    """The least sets of numbers of facts under which a question or a whole is never above zero."""
    check_facts(facts)
    together = Facts(*facts)
    names_under(expression.book, expression.asked(), together)
    sets = all_sets(len(facts))
    chosen = [chosen_facts(facts, numbers) for numbers in sets]
    for some in chosen:
        reachable_states(expression.book, some)
    zero = expression * 0
    found = []
    # What all facts together do not bring about, no set of them does.
    if is_below(expression, zero, together):
        for numbers, some in zip(sets, chosen):
            if not has_part(found, numbers) and is_below(expression, zero, some):
                found.append(numbers)
    return found


def chosen_facts(facts, numbers):
    """The facts with some numbers."""
    some = [facts[number] for number in numbers]
    return Facts(*some)


def check_facts(facts):
    """Refuses what is no list of at most six facts."""
    if not is_list(facts):
        raise InvalidFact(facts)
    for fact in facts:
        if not isinstance(fact, Fact):
            raise InvalidFact(fact)
    if len(facts) > MOST_FACTS:
        raise TooMany("facts", MOST_FACTS)


def has_part(sets, numbers):
    """Whether all numbers of one of the sets are among some numbers."""
    return any([all([number in numbers for number in one]) for one in sets])
