"""Answers of a desk."""

from surerise.enough import least_sets
from surerise.errors import UnknownName
from surerise.factors import least_factor
from surerise.factsets import Facts, states
from surerise.lines import kind_of
from surerise.under import is_below


def size_answer(book, thing):
    """How large a thing is that is put on a desk."""
    kind = kind_of(thing)
    if kind == "ask":
        return f"span {thing.span}"
    if kind == "row":
        return f"gaps {thing.gaps}"
    many = len(states(book, Facts(thing)))
    return f"states {many}"


def asked_answer(desk, word, names):
    """The answer to a line that asks something about things with these names, and changes nothing."""
    if word == "value":
        question, row = things_with(desk, names, ["ask", "row"])
        return str(question.at(row))
    if word == "keeps":
        row, *facts = things_with(desk, names, ["row"])
        return "yes" if Facts(*facts).keeps(row) else "no"
    one, other, *facts = things_with(desk, names, ["ask", "ask"])
    if word == "compare":
        return compare_answer(one, other, Facts(*facts))
    if word == "factor":
        return factor_answer(one, other, Facts(*facts))
    return enough_answer(one, other, facts, names[2:])


def things_with(desk, names, kinds):
    """The things with these names, the first ones of these kinds, the others facts."""
    wanted = kinds + ["fact"] * (len(names) - len(kinds))
    for name, kind in zip(names, wanted):
        if kind_of(desk.named(name)) != kind:
            raise UnknownName(name)
    return [desk.named(name) for name in names]


def compare_answer(one, other, facts):
    """Which of two questions is never above the other one."""
    if one == other:
        return "="
    below = is_below(one, other, facts)
    above = is_below(other, one, facts)
    if below and above:
        return "both"
    if below:
        return "<="
    return ">=" if above else "none"


def factor_answer(one, other, facts):
    """The least factor of two questions."""
    ratio = least_factor(one, other, facts)
    if ratio is None:
        return "none"
    numerator, denominator = ratio
    return str(numerator) if denominator == 1 else f"{numerator}/{denominator}"


def enough_answer(one, other, facts, names):
    """The least sets of facts, told by their names, under which one question is never above another one."""
    sets = [[names[number] for number in numbers] for numbers in least_sets(one - other, facts)]
    texts = [" ".join(chosen) if chosen else "-" for chosen in sets]
    return " / ".join(texts) if texts else "none"
