import itertools
import random
import unittest
from unittest.mock import ANY

from surerise.enough import least_sets
from surerise.errors import InvalidFact, TooMany, UnknownName
from surerise.facts import Apart, AtMost, Fact, NeverFalls, NotBoth, OnlyWith
from surerise.factsets import Facts
from surerise.questions import Question
from surerise.under import is_below
from surerise.wholes import Whole
from tests import ruling, walking
from tests.support import NO_LISTS, Case
from tests.test_under import EXCESS, FAR, LARGE, random_expression, step, sum_of

BOOK = walking.BOOK
ZERO = Question.zero(BOOK)


def from_all_sets(expression, facts):
    """The least sets by all subsets, and slow heights of questions."""
    enough = []
    for size in range(len(facts) + 1):
        for numbers in itertools.combinations(range(len(facts)), size):
            some = Facts(*[facts[number] for number in numbers])
            holds = ruling.greatest(expression, some) == 0 if isinstance(expression, Question) else is_below(expression, 0 * expression, some)
            if holds:
                enough.append(numbers)
    return [list(one) for one in enough if not any(set(other) < set(one) for other in enough)]


class Least(Case):
    def test_example(self):
        facts = [NeverFalls("s"), OnlyWith("s", "a"), OnlyWith("s", "b")]
        self.same(least_sets(EXCESS, facts), [[0], [1, 2]])
        self.same(least_sets(facts=tuple(facts), expression=EXCESS), [[0], [1, 2]])
        self.same(least_sets(FAR, facts), [[0], [1, 2]])

    def test_no_set_and_the_empty_set(self):
        for expression, zero in ((EXCESS, ZERO), (FAR, Whole.zero(BOOK))):
            self.same([least_sets(expression, []), least_sets(expression, ())], [[], []])
            self.same(least_sets(expression, [AtMost("s", 1), Apart("s", 9), NeverFalls("a")]), [])
            self.same([least_sets(zero, []), least_sets(zero, [NeverFalls("a")]), least_sets(-expression, [])], [[[]], [[]], []])
        self.same(least_sets(-step("a"), [NeverFalls("a"), NeverFalls("a")]), [[]])

    def test_equal_facts_are_numbered_one_by_one(self):
        never = NeverFalls("s")
        self.same(least_sets(EXCESS, [never, never, NeverFalls("s")]), [[0], [1], [2]])
        facts = [OnlyWith("s", "b"), OnlyWith("s", "a"), OnlyWith("s", "b"), never, OnlyWith("s", "a")]
        self.same(least_sets(EXCESS, facts), [[3], [0, 1], [0, 4], [1, 2], [2, 4]])

    def test_counting_facts(self):
        question = Question.rising(BOOK, "s", 4) - Question.truth(BOOK, "s", 4) - 2 * Question.showing(BOOK, "s").late(4) - 2 * Question.truth(BOOK, "s", 4)
        for facts in ([AtMost("s", 2), AtMost("s", 3), Apart("s", 2), Apart("s", 4), AtMost("s", 0)], [AtMost("s", 3), Apart("s", 2), NotBoth("a", "s")]):
            self.same(least_sets(question, facts), from_all_sets(question, facts))

    def test_against_all_sets(self):
        numbers = random.Random(11)
        seen = {}
        for book in walking.SMALL_BOOKS:
            for _ in range(40):
                facts = [ruling.random_fact(numbers, book) for _ in range(numbers.randint(0, 4))]
                expression = random_expression(numbers, book)
                if len(ruling.names_of([expression], Facts(*facts))) <= 6:
                    wanted = from_all_sets(expression, facts)
                    kind = len(wanted) if wanted != [[]] else "empty"
                    seen[kind] = seen.get(kind, 0) + 1
                    self.same(least_sets(expression, facts), wanted)
        self.assertGreater(min(seen["empty"], seen[0], seen[1]), 5)

    def test_six_facts(self):
        facts = [OnlyWith("s", "a"), NotBoth("s", "b"), AtMost("s", 2), NeverFalls("b"), OnlyWith("s", "b"), NotBoth("a", "s")]
        for expression in (EXCESS, EXCESS + EXCESS.late(1)):
            self.same(least_sets(expression, facts), from_all_sets(expression, facts))
        self.same(least_sets(FAR, facts), from_all_sets(FAR, facts))
        self.assertTrue(least_sets(EXCESS, facts))

    def test_lists_are_new(self):
        facts = [NeverFalls("s"), OnlyWith("s", "a"), OnlyWith("s", "b")]
        found = least_sets(EXCESS, facts)
        for numbers in found:
            numbers.clear()
        found.clear()
        self.same(least_sets(EXCESS, facts), [[0], [1, 2]])
        self.same(len(facts), 3)


class Refused(Case):
    def test_what_is_no_list_of_facts(self):
        never = NeverFalls("z")
        for value in NO_LISTS + [never, Facts(), Facts(never)]:
            self.refuses(InvalidFact, {"value": value}, least_sets, EXCESS, value)
        for value in [None, True, 0, "s never", [], [never], (), Facts(), Facts(never), Fact, NeverFalls, ANY]:
            for facts in ([value], [never, value], (never,) * 9 + (value,), [value, None], [never, value, 5]):
                self.refuses(InvalidFact, {"value": value}, least_sets, EXCESS, facts)

    def test_seven_facts(self):
        wanted = {"what": "facts", "limit": 6}
        for facts in ([NeverFalls("s")] * 7, [AtMost("z", 100)] * 7, [NeverFalls(name) for name in "abcdefg"]):
            self.refuses(TooMany, wanted, least_sets, EXCESS, facts)
        self.same(least_sets(EXCESS, [NeverFalls("s")] * 6), [[0], [1], [2], [3], [4], [5]])

    def test_unknown_names(self):
        self.refuses(UnknownName, {"value": "c"}, least_sets, EXCESS, [NeverFalls("d"), AtMost("a", 100), OnlyWith("a", "c")])
        self.refuses(UnknownName, {"value": "zz"}, least_sets, sum_of(LARGE.names()), [NeverFalls("zz")])

    def test_six_and_seven_names(self):
        wanted = {"what": "names", "limit": 6}
        names = LARGE.names()
        for kind in (Question, Whole):
            for asked, more in ((names[:6], names[6:7]), (names[:7], []), (names[:3], names[3:7]), ([], names[:6] + names[8:])):
                facts = [NotBoth(one, other) for one, other in zip(more, more[1:])] + [AtMost(name, 70) for name in more[:1]]
                self.refuses(TooMany, wanted, least_sets, sum_of(asked, kind), facts[:6])
            self.same(least_sets(-sum_of(names[:5], kind), [OnlyWith(names[4], names[5])]), [[]])

    def test_sixty_states_and_more(self):
        wanted = {"what": "states", "limit": 60}
        for facts in (
            [AtMost("a", 60)], [AtMost("s", 60), NeverFalls("s")], [AtMost("s", 60), NeverFalls("s"), NeverFalls("a"), NeverFalls("b")],
            [AtMost("a", 9), AtMost("b", 9)], [NeverFalls("a"), AtMost("b", 9), AtMost("a", 9)], [Apart("a", 10 ** 39)],
        ):
            for expression in (EXCESS, ZERO, FAR):
                self.refuses(TooMany, wanted, least_sets, expression, facts)
        self.same(least_sets(EXCESS, [AtMost("s", 59), NeverFalls("s")]), [[1]])
        self.same(least_sets(FAR, [AtMost("a", 9), AtMost("b", 5), AtMost("s", 0)]), [[2]])


if __name__ == "__main__":
    unittest.main()
