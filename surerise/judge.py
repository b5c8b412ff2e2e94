"""Claims, and the certificates that are checked by following them."""

from surerise.basics import is_count, is_ratio
from surerise.determined import MOST_GAPS_OF_ROWS, check_question, is_parting, is_recipe, recipe, two_rows
from surerise.errors import InvalidClaim, RiseError, TooMany, UnknownName
from surerise.factors import is_obstacle, is_witness, run_for
from surerise.factsets import Facts, reachable_states
from surerise.questions import Question
from surerise.stores import Store
from surerise.under import are_alike, breaking_under, heights_under, is_breaking_under, is_heights_under
from surerise.under import names_under

KINDS = ("never above", "above", "factor", "determined", "open")


def is_claim(value):
    """Whether a value is a claim that is within all limits."""
    if not isinstance(value, tuple) or len(value) < 3 or not isinstance(value[0], str):
        return False
    kind, *parts = value
    if kind == "never above" or kind == "above":
        return len(parts) == 3 and is_comparison(*parts)
    if kind == "factor":
        return len(parts) == 4 and is_factor_claim(*parts)
    if kind == "determined":
        return len(parts) == 2 and is_asked_of_store(*parts)
    return kind == "open" and len(parts) == 3 and is_open_claim(*parts)


def certificate_of(claim):
    """A certificate of a claim, None if the claim is not true."""
    check_claim(claim)
    kind, *parts = claim
    if kind == "determined":
        return recipe(*parts)
    if kind == "open":
        return two_rows(*parts)
    if kind == "factor":
        return factor_certificate(*parts)
    one, other, facts = parts
    if kind == "above":
        return breaking_under(one - other, facts)
    return heights_under(one - other, facts)


def is_certificate(claim, value):
    """Whether a value is a certificate of a claim."""
    check_claim(claim)
    kind, *parts = claim
    if kind == "determined":
        store, question = parts
        return is_recipe(store, question, value)
    if kind == "open":
        store, question, gaps = parts
        return is_parting(store, question, value) and value[0].gaps == gaps
    if kind == "factor":
        return is_factor_certificate(parts, value)
    one, other, facts = parts
    if kind == "above":
        return is_breaking_under(one - other, facts, value)
    return is_heights_under(one - other, facts, value)


def is_comparison(one, other, facts):
    """Whether these are two questions or two wholes, and facts, with not too many names in the difference."""
    return is_bound(one, other, facts) and is_small(one.book, (one - other).asked(), facts)


def is_factor_claim(one, other, facts, ratio):
    """Whether these are two questions or two wholes, facts, and a RATIO or None, with not too many names in both."""
    if ratio is not None and not is_ratio(ratio):
        return False
    return is_bound(one, other, facts) and is_small(one.book, one.asked() + other.asked(), facts)


def is_bound(one, other, facts):
    """Whether these are two questions or two wholes of one book, and facts."""
    return are_alike(one, other) and one.book == other.book and isinstance(facts, Facts)


def is_small(book, asked, facts):
    """Whether the book has the names of the facts, and there are not too many names and states."""
    try:
        names_under(book, asked, facts)
        reachable_states(book, facts)
    except UnknownName:
        return False
    except TooMany:
        return False
    return True


def is_asked_of_store(store, question):
    """Whether these are a store and a question that it may be asked."""
    if not isinstance(store, Store) or not isinstance(question, Question):
        return False
    try:
        check_question(store, question)
    except RiseError:
        return False
    return True


def is_open_claim(store, question, gaps):
    """Whether these are a store, a question that it may be asked, and a number of gaps that rows may have."""
    return is_asked_of_store(store, question) and is_count(gaps) and question.span <= gaps <= MOST_GAPS_OF_ROWS


def factor_certificate(one, other, facts, ratio):
    """A certificate of a least factor, or that there is none; None if this is not so."""
    bound = heights_under(-other, facts)
    if bound is None:
        return None
    run = run_for(one, other, facts, ratio)
    if run is None:
        return None
    return (bound, None if ratio is None else heights_under(scaled_difference(one, other, ratio), facts), run)


def is_factor_certificate(parts, value):
    """Whether a value is a certificate of a claim of a factor."""
    one, other, facts, ratio = parts
    if not isinstance(value, tuple) or len(value) != 3:
        return False
    bound, heights, run = value
    if not is_heights_under(-other, facts, bound):
        return False
    if ratio is None:
        return heights is None and is_obstacle(one, other, facts, run)
    right = is_heights_under(scaled_difference(one, other, ratio), facts, heights)
    return right and is_witness(one, other, facts, ratio, run)


def scaled_difference(one, other, ratio):
    """What is never above zero if the ratio is a factor."""
    numerator, denominator = ratio
    return one * denominator - other * numerator


def check_claim(value):
    """Refuses what is no claim."""
    if not is_claim(value):
        raise InvalidClaim(value)
