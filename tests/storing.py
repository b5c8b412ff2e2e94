"""Slow second ways to what stores determine: fractions, and all late series for a number of gaps."""

from fractions import Fraction

from surerise.questions import Question
from surerise.stores import Store
from tests import walking


def told(store, row):
    """What a store tells, from cut rows and the definition of values."""
    found = {}
    for name in store.names():
        question = store.series(name)
        found[name] = [walking.value_at_row(question, row.cut(0, k)) for k in range(question.span, row.gaps + 1)]
    return found


def is_sum(vectors, wanted):
    """Whether a dict of weights is a sum of other ones, each times a fraction."""
    kept = []
    for vector in vectors + [wanted]:
        left = dict(vector)
        for place, one in kept:
            share = left.get(place, 0)
            left = {k: left.get(k, 0) - share * one.get(k, 0) for k in set(left) | set(one)}
        left = {k: x for k, x in left.items() if x != 0}
        if vector is wanted:
            return not left
        if left:
            place = next(iter(left))
            kept.append((place, {k: Fraction(x) / left[place] for k, x in left.items()}))


def is_determined(store, question, gaps):
    """Whether a question is determined by so many gaps, by all late series that need no more."""
    vectors = []
    for name in store.names():
        series = store.series(name)
        for late in range(gaps - series.span + 1):
            vectors.append({(n, ago + late): Fraction(w) for (n, ago), w in series.steps().items()})
    return is_sum(vectors, {key: Fraction(w) for key, w in question.steps().items()})


def recipe_sum(store, recipe):
    """The weights that a recipe brings together."""
    total = {}
    for (name, late), (p, q) in recipe.items():
        for (n, ago), w in store.series(name).steps().items():
            total[n, ago + late] = total.get((n, ago + late), 0) + Fraction(w * p, q)
    return {key: w for key, w in total.items() if w != 0}


def random_rises(numbers, book, names, span):
    return Question(book, {(n, ago): w for n in names for ago in range(span) if (w := numbers.choice([-2, -1, 0, 0, 1, 2]))}, {})


def random_store(numbers, book, names, most=4):
    series = {}
    while not series:
        for number in range(numbers.randint(1, most)):
            question = random_rises(numbers, book, names, numbers.randint(1, 4))
            if question:
                series[f"s{number}"] = question
    return Store(book, series)
