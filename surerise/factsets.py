"""Facts together, and their states: what is left to be kept behind some gaps."""

from surerise.basics import is_count, is_name
from surerise.books import check_known
from surerise.errors import InvalidFact, InvalidLetter, InvalidState, TooMany
from surerise.facts import Fact
from surerise.letters import possible_letters


class Facts:
    """Any number of different facts, in the sequence in which they were first given."""

    MOST_STATES = 60

    def __init__(self, *facts):
        found = []
        for fact in facts:
            if not isinstance(fact, Fact):
                raise InvalidFact(fact)
            if fact not in found:
                found.append(fact)
        self._facts = found

    def listed(self):
        """The list of the facts."""
        return list(self._facts)

    def names(self):
        """The sorted names of the facts."""
        return sorted(list({name: True for fact in self._facts for name in fact.names()}), key=str)

    def keeps(self, row):
        """Whether a row keeps all of the facts."""
        check_fact_names(row.book, self)
        return all([fact.keeps(row) for fact in self._facts])

    def __len__(self):
        return len(self._facts)

    def __contains__(self, x):
        return x in self._facts

    def __and__(self, other):
        both = self._facts + facts_in(other)
        return Facts(*both)

    def __iand__(self, other):
        return self & other

    def __le__(self, other):
        if not isinstance(other, Facts):
            return NotImplemented
        return all([fact in other._facts for fact in self._facts])

    def __eq__(self, other):
        if not isinstance(other, Facts) or len(self._facts) != len(other._facts):
            return False
        return all([fact in other._facts for fact in self._facts])


def facts_in(value):
    """The list of the facts that a value has, which is Facts or a Fact."""
    if isinstance(value, Facts):
        return value.listed()
    if isinstance(value, Fact):
        return [value]
    raise InvalidFact(value)


def first_state(facts):
    """The state ahead of all gaps."""
    return tuple([fact.first_count() for fact in counting_facts(facts)])


def is_allowed(facts, state, letter):
    """Whether a letter is allowed in a state."""
    check_state(facts, state)
    check_letter(letter)
    return is_free(facts, letter) and is_counted_in(facts, state, letter)


def next_state(facts, state, letter):
    """The state behind a letter."""
    check_state(facts, state)
    check_letter(letter)
    return state_behind(facts, state, letter)


def states(book, facts):
    """The ascending list of the reachable states."""
    found = []
    for state in reachable_states(book, facts):
        found.insert(len([earlier for earlier in found if earlier < state]), state)
    return found


def counting_facts(facts):
    """The facts that count, in the sequence of the facts."""
    return [fact for fact in facts.listed() if fact.first_count() is not None]


def is_free(facts, letter):
    """Whether no fact that does not count bars a letter."""
    return all([fact.allows(letter, None) for fact in facts.listed() if fact.first_count() is None])


def is_counted_in(facts, state, letter):
    """Whether no fact that counts bars a letter in a state."""
    return all([fact.allows(letter, count) for fact, count in zip(counting_facts(facts), state)])


def state_behind(facts, state, letter):
    """The state behind a letter."""
    return tuple([fact.next_count(letter, count) for fact, count in zip(counting_facts(facts), state)])


def reachable_states(book, facts):
    """The reachable states, the first one first, and each one behind one from which a letter leads to it."""
    # A name that the book does not have is refused with the letters.
    letters = counted_letters(facts, possible_letters(book, facts.names()))
    found = [first_state(facts)]
    seen = {found[0]: True}
    at = 0
    while at < len(found):
        state = found[at]
        at = at + 1
        goals = [state_behind(facts, state, letter) for letter in letters if is_counted_in(facts, state, letter)]
        for goal in goals:
            if goal not in seen:
                seen[goal] = True
                found.append(goal)
        if len(found) > Facts.MOST_STATES:
            raise TooMany("states", Facts.MOST_STATES)
    return found


def counted_letters(facts, letters):
    """What the letters that no fact bars that does not count have of the names of counting facts, each once."""
    counted = [name for fact in counting_facts(facts) for name in fact.names()]
    free = [letter for letter in letters if is_free(facts, letter)]
    return list({tuple([name for name in letter if name in counted]): True for letter in free})


def turns_under(facts, found, letters):
    """For each of the reachable states a dict from the letters allowed in it to the numbers of the next states."""
    numbers = {state: number for number, state in enumerate(found)}
    free = [letter for letter in letters if is_free(facts, letter)]
    return [
        {letter: numbers[state_behind(facts, state, letter)] for letter in free if is_counted_in(facts, state, letter)}
        for state in found
    ]


def check_fact_names(book, facts):
    """Refuses the first name of facts that the book does not have."""
    for name in facts.names():
        check_known(book, name)


def check_state(facts, value):
    """Refuses what is no tuple with a COUNT for each counting fact."""
    if not isinstance(value, tuple) or len(value) != len(counting_facts(facts)):
        raise InvalidState(value)
    if not all([is_count(count) for count in value]):
        raise InvalidState(value)


def check_letter(value):
    """Refuses what is no tuple of NAMES."""
    if not isinstance(value, tuple) or not all([is_name(name) for name in value]):
        raise InvalidLetter(value)
