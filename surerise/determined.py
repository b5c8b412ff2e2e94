"""What stores determine: recipes for questions, rows that the store cannot tell apart, and the fewest series."""

from math import gcd

from surerise.basics import is_count, is_ratio, ratio_of
from surerise.choices import all_sets
from surerise.errors import InvalidInteger, InvalidQuestion, OtherBook, TooMany, TooShort
from surerise.letters import plan_of_changes
from surerise.reductions import Sums
from surerise.rows import Row
from surerise.stores import asked_by, check_free

# How many gaps the rows may have that show that a question is not determined.
MOST_GAPS_OF_ROWS = 60


def least_gaps(store, question):
    """The least number of gaps by which a question is determined, None if there is none."""
    check_question(store, question)
    left = left_without(store, question)
    return None if left.weights else left.needed


def recipe(store, question):
    """A recipe for a question that needs as few gaps as possible, None if there is none."""
    check_question(store, question)
    left = left_without(store, question)
    if left.weights:
        return None
    names = store.names()
    # The last one of the first shares is that of the question, and all together make nothing.
    many = len(names) + 1
    times = left.shares[len(names)]
    places = [place for place, share in enumerate(left.shares) if share != 0 and place != len(names)]
    return {(names[place % many], place // many): ratio_of(-left.shares[place], times) for place in places}


def is_recipe(store, question, value):
    """Whether a value is a recipe for a question."""
    check_question(store, question)
    if not isinstance(value, dict) or not all([is_share(store, key, value[key]) for key in value]):
        return False
    # All ratios are told as numbers of one small fraction.
    fraction = 1
    for key in value:
        fraction = fraction * value[key][1] // gcd(fraction, value[key][1])
    total = {}
    for name, late in value:
        numerator, denominator = value[name, late]
        weights = store.series(name).steps()
        for asked, ago in weights:
            more = weights[asked, ago] * numerator * (fraction // denominator)
            total[asked, ago + late] = total.get((asked, ago + late), 0) + more
    wanted = question.steps()
    return {key: total[key] for key in total if total[key] != 0} == {key: wanted[key] * fraction for key in wanted}


def two_rows(store, question, gaps):
    """Two rows of which the store tells the same, but with different values of a question, None if there are none."""
    check_question(store, question)
    if not is_count(gaps):
        raise InvalidInteger(gaps)
    if gaps < question.span:
        raise TooShort(question.span)
    if gaps > MOST_GAPS_OF_ROWS:
        raise TooMany("gaps", MOST_GAPS_OF_ROWS)
    names = asked_by(store.book, series_of(store) + [question])
    sums = sums_of(store, store.names(), names)
    left = sums.left_of(weights_of(question, names), gaps)
    if not left.weights:
        return None
    return rows_apart(store.book, names, sums.telling_apart(left, gaps), gaps)


def is_parting(store, question, value):
    """Whether a value is two rows of which the store tells the same, but with different values of a question."""
    check_question(store, question)
    if not isinstance(value, tuple) or len(value) != 2:
        return False
    one, other = value
    if not is_row_of(store.book, one) or not is_row_of(store.book, other):
        return False
    if one.gaps != other.gaps or one.gaps < question.span:
        return False
    return store.told(one) == store.told(other) and question.at(one) != question.at(other)


def fewest(store, questions):
    """The sorted names of the fewest series that determine questions, None if all together do not."""
    for question in questions:
        check_question(store, question)
    names = asked_by(store.book, series_of(store) + list(questions))
    check_free(store.book, series_of(store) + list(questions))
    every = store.names()
    if not are_determined(store, every, names, questions):
        return None
    # The last set has all series.
    for numbers in all_sets(len(every))[:-1]:
        chosen = [every[number] for number in numbers]
        if are_determined(store, chosen, names, questions):
            return chosen
    return every


def check_question(store, question):
    """Refuses a question of another book, or with reading weights, or with names that depend on one another."""
    if store.book != question.book:
        raise OtherBook()
    if question.readings():
        raise InvalidQuestion(question)
    check_free(store.book, series_of(store) + [question])


def series_of(store):
    """The questions of all series."""
    return [store.series(name) for name in store.names()]


def is_share(store, key, ratio):
    """Whether a value with a key can stand in a recipe."""
    if not isinstance(key, tuple) or len(key) != 2 or not is_ratio(ratio) or ratio == (0, 1):
        return False
    name, late = key
    return isinstance(name, str) and name in store.names() and is_count(late)


def is_row_of(book, value):
    """Whether a value is a row of a book."""
    return isinstance(value, Row) and value.book == book


def left_without(store, question):
    """What is left of a question if as much is taken away from it as all series can, by any number of gaps."""
    names = asked_by(store.book, series_of(store) + [question])
    return sums_of(store, store.names(), names).left_of(weights_of(question, names), None)


def are_determined(store, chosen, names, questions):
    """Whether the chosen series determine all of the questions by any number of gaps."""
    sums = sums_of(store, chosen, names)
    return not any([sums.left_of(weights_of(question, names), None).weights for question in questions])


def sums_of(store, chosen, names):
    """The sums of chosen series, with weights of these names."""
    return Sums([weights_of(store.series(name), names) for name in chosen], len(names))


def weights_of(question, names):
    """The weights of a question as reductions take them."""
    steps = question.steps()
    places = {(name, ago): ago * len(names) + names.index(name) for name, ago in steps}
    weights = [0] * max([0] + [places[key] + 1 for key in places], key=int)
    for key in steps:
        weights[places[key]] = steps[key]
    return weights


def rows_apart(book, names, apart, gaps):
    """Two rows in which all names fall at all gaps, so that their steps are their readings, with these differences.

    Apart has them in the sequence of reductions. Each name has a counter that is in none of its parts, and of which the
    readings are chosen so that those of the name are right.
    """
    plan = plan_of_changes(book, names)
    every = range(gaps + 1)
    shares = [[0] * len(book) for _ in every]
    for name, parts, _, bare in plan:
        for ago in range(gaps):
            of_parts = [apart[ago * len(names) + names.index(part)] for part in parts]
            shares[gaps - ago][bare] = apart[ago * len(names) + names.index(name)] - sum(of_parts)
    # So much that no change turns a fall into a rise, or a reading into less than zero.
    height = 1 + 2 * max([abs(share) for look in shares for share in look], key=int)
    bare_places = [bare for _, _, _, bare in plan]
    high = [[height * (gaps + 1 - look) if place in bare_places else 0 for place in range(len(book))] for look in every]
    return (Row(book, high), Row(book, [[x + y for x, y in zip(one, two)] for one, two in zip(high, shares)]))
