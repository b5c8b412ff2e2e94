"""Slow second ways to the values of questions and wholes: plain walks over all columns and possible letters."""

import functools
import itertools

from surerise.books import Book
from surerise.letters import possible_letters
from surerise.questions import Question
from surerise.rows import Row
from surerise.wholes import Whole

BOOK = Book(["a", "b"], [("s", ["a", "b"])])
PLAIN = Book(["b", "a"])
ONE = Book(["a"])
THREE = Book(["c", "a", "b"], [("t", ["a", "b", "c"]), ("s", ["a", "b"])])
PAIRS = Book(list("abcd"), [("y", ["c", "d"]), ("z", ["a", "b"]), ("all", list("abcd"))])
LARGE = Book(list("abcde"), [("z", list("ab")), ("y", list("cde")), ("x", list("cd")), ("all", list("abcde"))])
CHAIN = Book(list("abcde"), [("w", list("ab")), ("v", list("abc")), ("u", list("abcd")), ("t", list("abcde"))])
SMALL_BOOKS = [BOOK, PLAIN, ONE, THREE]


def all_columns(book):
    return list(itertools.product((0, 1), repeat=len(book.counters())))


def reading(book, name, look):
    return sum(number for counter, number in zip(book.counters(), look) if counter in book.members(name))


def step(book, name, before, letter, after):
    """The step of a name with a letter."""
    there = reading(book, name, after)
    return there if name in letter else there - reading(book, name, before)


def fits(book, names, before, letter, after):
    """Whether a letter of the names fits two looks."""
    for name in names:
        change = reading(book, name, after) - reading(book, name, before)
        if (change < 0 and name not in letter) or (change > 0 and name in letter):
            return False
    return True


@functools.lru_cache(maxsize=None)
def moves_of(counters, groups, names):
    book = Book(list(counters), [(name, list(members)) for name, members in groups])
    every = all_columns(book)
    letters = possible_letters(book, list(names))
    return [(u, letter, v) for u in every for letter in letters for v in every if fits(book, names, u, letter, v)]


def moves(book, names):
    """All tuples of a column, a possible letter of the names and a column that it fits."""
    groups = tuple((name, tuple(book.members(name))) for name in book.groups())
    return moves_of(tuple(book.counters()), groups, tuple(names))


def look_worth(question, ago, look):
    return sum(w * reading(question.book, n, look) for (n, far), w in question.readings().items() if far == ago)


def gap_worth(question, ago, before, letter, after):
    weights = {n: w for (n, far), w in question.steps().items() if far == ago}
    return sum(w * step(question.book, n, before, letter, after) for n, w in weights.items())


def least_heights(question):
    """The least heights of a question: the greatest values of all that begins at each look and column."""
    found = {u: look_worth(question, 0, u) for u in all_columns(question.book)}
    layers = [found]
    for ago in range(question.span):
        ahead = {u: [] for u in found}
        for u, letter, v in moves(question.book, question.asked()):
            ahead[u].append(gap_worth(question, ago, u, letter, v) + found[v])
        found = {u: look_worth(question, ago + 1, u) + max(ahead[u]) for u in found}
        layers.insert(0, found)
    return layers


def greatest_of_walks(question):
    return max(least_heights(question)[0].values())


def is_never_above_zero(question):
    return greatest_of_walks(question) <= 0


def value_at_walk(question, looks, letters):
    last = question.span
    total = sum(look_worth(question, last - k, look) for k, look in enumerate(looks))
    for gap in range(1, last + 1):
        total += gap_worth(question, last - gap, looks[gap - 1], letters[gap - 1], looks[gap])
    return total


def value_at_row(question, row):
    """The value of a question at a row, from the definition."""
    looks = row.looks()
    total = sum(w * reading(row.book, n, looks[-1 - ago]) for (n, ago), w in question.readings().items())
    for (name, ago), weight in question.steps().items():
        before, after = (reading(row.book, name, looks[-1 - ago - k]) for k in (1, 0))
        total += weight * (after if after < before else after - before)
    return total


def random_row(numbers, book, gaps, most=3):
    return Row(book, [[numbers.randrange(most + 1) for _ in book.counters()] for _ in range(gaps + 1)])


def random_walk(numbers, book, names, gaps):
    """Columns and letters that follow one another."""
    looks = [numbers.choice(all_columns(book))]
    letters = []
    for _ in range(gaps):
        _, letter, v = numbers.choice([move for move in moves(book, names) if move[0] == looks[-1]])
        letters.append(letter)
        looks.append(v)
    return looks, letters


def random_question(numbers, book, span, names=None, far=2):
    """A question with a few steps of the names, and sometimes readings."""
    names = names or numbers.sample(book.names(), numbers.randint(1, min(6, len(book.names()))))
    found = Question.zero(book)
    for name in names:
        for ago in range(span):
            if numbers.random() < 0.6:
                found = found + numbers.randint(-far, far) * Question.rising(book, name, 1).late(ago)
    for counter in book.counters():
        for ago in range(span + 1):
            if numbers.random() < 0.2:
                found = found + numbers.randint(-far, far) * Question.showing(book, counter).late(ago)
    return found


def random_whole(numbers, book, far=2):
    """A whole with a few weights."""
    found = Whole.zero(book)
    for name in numbers.sample(book.names(), numbers.randint(0, min(6, len(book.names())))):
        found = found + numbers.randint(-far, far) * Whole.rising(book, name)
    for counter in book.counters():
        if numbers.random() < 0.5:
            found = found + numbers.randint(-far, far) * Whole.opening(book, counter)
        if numbers.random() < 0.5:
            found = found + numbers.randint(-far, far) * Whole.closing(book, counter)
    return found
