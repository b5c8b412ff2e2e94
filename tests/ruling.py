"""Slow second ways to all that is asked under facts, by the texts of the facts and plain walks over all that is possible."""

import itertools

from surerise.facts import Apart, AtMost, NeverFalls, NotBoth, OnlyWith
from surerise.factsets import Facts
from surerise.letters import possible_letters
from surerise.questions import Question
from tests import walking


def words(fact):
    return str(fact).split(" ")


def counting(facts):
    return [words(fact) for fact in facts.listed() if words(fact)[1] in ("apart", "at")]


def first(facts):
    return tuple(0 if told[1] == "apart" else int(told[3]) for told in counting(facts))


def allowed(facts, state, letter):
    for told in map(words, facts.listed()):
        name, last = told[0], told[-1]
        if name in letter and (told[1] == "never" or (told[1] == "only" and last not in letter) or (told[1] == "not" and last in letter)):
            return False
    for told, count in zip(counting(facts), state):
        if told[0] in letter and (count > 0) == (told[1] == "apart"):
            return False
    return True


def behind(facts, state, letter):
    found = []
    for told, count in zip(counting(facts), state):
        if told[1] == "apart":
            found.append(int(told[2]) - 1 if told[0] in letter else max(count - 1, 0))
        else:
            found.append(max(count - 1, 0) if told[0] in letter else count)
    return tuple(found)


def reachable(book, facts):
    """The sorted list of the reachable states, found round by round."""
    letters = possible_letters(book, facts.names())
    found = {first(facts)}
    while True:
        more = {behind(facts, state, letter) for state in found for letter in letters if allowed(facts, state, letter)}
        if more <= found:
            return sorted(found)
        found |= more


def names_of(expressions, facts):
    asked = {name for expression in expressions for name in expression.asked()} | set(facts.names())
    return [name for name in expressions[0].book.names() if name in asked]


def moves(expression, facts):
    """All tuples of two places and the letter between them; a place is a tuple of a column and a state."""
    book = expression.book
    every = walking.moves(book, names_of([expression], facts))
    for state in reachable(book, facts):
        goals = {letter: behind(facts, state, letter) for letter in {m[1] for m in every} if allowed(facts, state, letter)}
        yield from [((u, state), letter, (v, goals[letter])) for u, letter, v in every if letter in goals]


def worth(weights, book, before, letter, after):
    return sum(w * walking.step(book, n, before, letter, after) for n, w in weights.items())


def shown(weights, book, look):
    return sum(w * walking.reading(book, n, look) for n, w in weights.items())


def least_heights(question, facts):
    """The least heights of a question under facts: the greatest values of what begins at each look and place."""
    book = question.book
    found = {(u, t): walking.look_worth(question, 0, u) for u in walking.all_columns(book) for t in reachable(book, facts)}
    layers = [found]
    every = list(moves(question, facts))
    for ago in range(question.span):
        ahead = {place: [] for place in found}
        for place, letter, goal in every:
            ahead[place].append(walking.gap_worth(question, ago, place[0], letter, goal[0]) + found[goal])
        found = {place: walking.look_worth(question, ago + 1, place[0]) + max(ahead[place]) for place in found}
        layers.insert(0, found)
    return layers


def greatest(question, facts):
    return max(h for (_, state), h in least_heights(question, facts)[0].items() if state == first(facts))


def are_heights(expression, facts, value):
    """Whether heights have the properties of [64], looked up one by one; their form must be right."""
    if isinstance(expression, Question):
        return are_window_heights(expression, facts, value)
    book = expression.book
    for (u, state), height in value.items():
        if height < shown(expression.lasts(), book, u):
            return False
        if state == first(facts) and height + shown(expression.firsts(), book, u) > 0:
            return False
    steps = [(value[p], worth(expression.rises(), book, p[0], x, q[0]) + value[q]) for p, x, q in moves(expression, facts)]
    return all(have >= need for have, need in steps)


def are_window_heights(question, facts, value):
    span = question.span
    if any(height > 0 for (_, state), height in value[0].items() if state == first(facts)):
        return False
    if any(height < walking.look_worth(question, 0, u) for (u, _), height in value[span].items()):
        return False
    every = list(moves(question, facts))
    for k in range(1, span + 1):
        for place, letter, goal in every:
            least = walking.look_worth(question, k, place[0]) + walking.gap_worth(question, k - 1, place[0], letter, goal[0])
            if value[span - k][place] < least + value[span - k + 1][goal]:
                return False
    return True


def fall_pattern(row, name):
    readings = [walking.reading(row.book, name, look) for look in row.looks()]
    return [after < before for before, after in zip(readings, readings[1:])]


def kept(facts, row):
    """Whether a row keeps facts, from the table of their kinds."""
    for told in map(words, facts.listed()):
        falls = fall_pattern(row, told[0])
        other = fall_pattern(row, told[-1]) if told[1] in ("only", "not") else falls
        gaps = [number for number, fallen in enumerate(falls) if fallen]
        right = {
            "only": all(y for x, y in zip(falls, other) if x), "not": not any(x and y for x, y in zip(falls, other)), "never": not gaps,
            "apart": all(two - one >= int(told[-1]) for one, two in itertools.combinations(gaps, 2)) if told[1] == "apart" else True,
            "at": len(gaps) <= int(told[-1]) if told[1] == "at" else True,
        }
        if not right[told[1]]:
            return False
    return True


def random_fact(numbers, book):
    names = book.names()
    one = numbers.choice(names)
    kind = numbers.randrange(5)
    if kind < 2 and len(names) > 1:
        other = numbers.choice([name for name in names if name != one])
        return OnlyWith(one, other) if kind else NotBoth(one, other)
    return NeverFalls(one) if kind < 3 else Apart(one, numbers.randint(1, 3)) if kind == 3 else AtMost(one, numbers.randint(0, 2))


def random_facts(numbers, book, most=3):
    some = [random_fact(numbers, book) for _ in range(numbers.randint(0, most))]
    return Facts(*some)


def random_moves(numbers, book, names, facts, place, many):
    """Moves from a place on, and the place behind them."""
    found = []
    for _ in range(many):
        column, state = place
        letter, goal = numbers.choice([m[1:] for m in walking.moves(book, names) if m[0] == column and allowed(facts, state, m[1])])
        found.append((letter, goal))
        place = (goal, behind(facts, state, letter))
    return found, place
