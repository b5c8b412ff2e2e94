import random
import unittest
from math import gcd
from unittest.mock import ANY

from surerise.errors import BelowZero, InvalidQuestion, OtherBook, TooMany, UnknownName, ZeroBound
from surerise.facts import Apart, AtMost, NeverFalls, NotBoth, OnlyWith
from surerise.factors import factor_evidence, is_obstacle, is_witness, least_factor
from surerise.factsets import Facts
from surerise.questions import Question
from surerise.under import heights_under, is_below, is_breaking_under
from surerise.wholes import Whole
from tests import ruling, walking
from tests.support import Case
from tests.test_under import EXCESS, FAR, LARGE, NEVER, NONE, ODD_VALUES, follows, journey_told, journey_value, step, sum_of
from tests.test_under import random_expression

BOOK = walking.BOOK
PARTS = Question.truth(BOOK, "s", 1)
RISE = Question.rising(BOOK, "s", 1)
ZERO = Question.zero(BOOK)
HEAVY = 3 * step("a") + step("b")
TRUTH = Whole.rising(BOOK, "a") + Whole.rising(BOOK, "b")
FALL, STAY = (("a", "s"), (0, 1)), ((), (0, 1))


def value_of(expression, value):
    """The value of an expression at a walk, a journey or a ring, from the definition."""
    if isinstance(expression, Question):
        looks, letters = value
        gaps = expression.span
        return walking.value_at_walk(expression, looks[len(looks) - 1 - gaps:], letters[len(letters) - gaps:])
    if value[0] == "journey":
        return journey_value(expression, value[1])
    _, column, before, moves = value
    goals = [column] + [goal for _, goal in list(before) + list(moves)]
    total = 0
    for at in range(len(before), len(before) + len(moves)):
        total += ruling.worth(expression.rises(), expression.book, goals[at], moves[at - len(before)][0], goals[at + 1])
    return total


def is_right(one, other, facts, value):
    """Whether what a function returned is a walk, a journey or a ring, looked up step by step."""
    both = one + 2 * other if (one + 2 * other).asked() == ruling.names_of([one, other], NONE) else one * 3 + other * 7 ** 50
    if isinstance(one, Question):
        looks, letters = value
        moves = list(zip(letters, looks[1:]))
        return len(letters) == max(one.span, other.span) and follows(both, facts, looks[0], moves) is not None
    if value[0] == "journey":
        column, moves = journey_told(value[1])
        return follows(both, facts, column, moves) is not None
    _, column, before, moves = value
    places = follows(both, facts, column, before + moves)
    return places is not None and places[len(before)] == places[-1] and len(moves) > 0


class Least(Case):
    def test_example(self):
        self.same([least_factor(HEAVY, 2 * PARTS, NONE), least_factor(RISE, PARTS, NONE)], [(3, 2), None])
        self.same([least_factor(RISE, PARTS, NEVER), is_witness(HEAVY, 2 * PARTS, NONE, (3, 2), ([(0, 0), (1, 0)], [()]))], [(1, 1), True])
        self.same(is_obstacle(RISE, PARTS, NONE, ([(0, 1), (0, 1)], [("a", "s")])), True)
        self.assertRaises(BelowZero, least_factor, PARTS, EXCESS, NONE)

    def test_factors_of_questions(self):
        rise, truth = Question.rising, Question.truth
        for one, other, facts, wanted in (
            (ZERO, PARTS, NONE, (0, 1)), (-PARTS, PARTS, NONE, (-1, 1)), (PARTS, PARTS, NONE, (1, 1)), (-2 * PARTS, 3 * PARTS, NONE, (-2, 3)),
            (-HEAVY, 2 * PARTS, NONE, (-1, 2)), (step("a"), PARTS, NONE, (1, 1)), (-step("a"), PARTS, NONE, (0, 1)), (PARTS, step("a"), NONE, None),
            (6 * PARTS, 4 * PARTS, NONE, (3, 2)), (rise(BOOK, "s", 2), truth(BOOK, "s", 2), NONE, None),
            (rise(BOOK, "a", 2), rise(BOOK, "a", 3), NONE, (1, 1)), (rise(BOOK, "a", 3), rise(BOOK, "a", 2), NONE, None),
            (rise(BOOK, "s", 3), truth(BOOK, "s", 3), Facts(NotBoth("a", "s"), NotBoth("b", "s")), (1, 1)),
            (Question.showing(BOOK, "s"), Question.showing(BOOK, "s").late(1) + PARTS, NONE, (1, 1)),
            (rise(BOOK, "s", 3), Question.showing(BOOK, "s").late(3) + truth(BOOK, "s", 3), NONE, (3, 1)),
            (rise(BOOK, "s", 3), Question.showing(BOOK, "s").late(3) + truth(BOOK, "s", 3), Facts(AtMost("s", 1)), (2, 1)),
            (2 * rise(BOOK, "s", 5), 7 * (Question.showing(BOOK, "s").late(5) + truth(BOOK, "s", 5)), Facts(Apart("s", 2)), (6, 7)),
        ):
            self.agrees(one, other, facts, wanted)

    def test_factors_of_wholes(self):
        rise = Whole.rising(BOOK, "s")
        for one, other, facts, wanted in (
            (rise, TRUTH, NONE, None), (rise, TRUTH, NEVER, (1, 1)), (2 * rise, 3 * TRUTH, Facts(OnlyWith("s", "a"), OnlyWith("s", "b")), (2, 3)),
            (Whole.zero(BOOK), TRUTH, NONE, (0, 1)), (-TRUTH, TRUTH, NONE, (-1, 1)), (Whole.net(BOOK, "a"), TRUTH, NONE, (1, 1)),
            (-Whole.rising(BOOK, "a"), TRUTH, NONE, (0, 1)), (Whole.closing(BOOK, "s"), Whole.opening(BOOK, "s") + TRUTH, NONE, (1, 1)),
            (rise, Whole.opening(BOOK, "s") + TRUTH, NONE, None), (rise, Whole.opening(BOOK, "s") + TRUTH, Facts(AtMost("s", 4)), (5, 1)),
            (rise, 3 * Whole.opening(BOOK, "s") + 2 * TRUTH, Facts(AtMost("s", 4)), (5, 2)),
            (Whole.opening(BOOK, "a"), Whole.opening(BOOK, "s"), NONE, (1, 1)), (3 * Whole.opening(BOOK, "a") - Whole.opening(BOOK, "b"), Whole.opening(BOOK, "s"), NONE, (3, 1)),
        ):
            self.agrees(one, other, facts, wanted)

    def test_ratios_that_only_rings_come_near(self):
        """A rise that starts at a loss comes near to a ratio only if it goes on very long."""
        a, b = Whole.rising(BOOK, "a"), Whole.rising(BOOK, "b")
        loss = Whole.opening(BOOK, "s") + Whole.closing(BOOK, "s")
        one = 5 * a + b - 3 * loss
        facts = Facts(NotBoth("a", "b"), NeverFalls("a"), NeverFalls("b"))
        self.agrees(one, 2 * a + 2 * b, facts, (1, 1))
        facts = Facts(OnlyWith("b", "a"), OnlyWith("a", "b"))
        self.agrees(5 * a + b - 9 * loss, 2 * a + b, facts, (5, 2))
        self.same(factor_evidence(5 * a + b - 9 * loss, 2 * a + b, facts)[0], "ring")
        self.agrees(5 * a + b - 9 * loss, 2 * a + b, facts & AtMost("b", 3), least_factor(5 * a + b - 9 * loss, 2 * a + b, facts & AtMost("b", 3)))

    def agrees(self, one, other, facts, wanted):
        """Compares the least factor with what is wanted, and looks through its papers."""
        self.same([least_factor(one, other, facts), least_factor(facts=facts, other=other, one=one)], [wanted, wanted])
        found = factor_evidence(facts=facts, one=one, other=other)
        self.papers(one, other, facts, wanted, found)

    def papers(self, one, other, facts, ratio, found):
        self.assertTrue(is_right(one, other, facts, found))
        values = [value_of(one, found), value_of(other, found)]
        self.same(is_obstacle(value=found, facts=facts, other=other, one=one), ratio is None)
        if ratio is None:
            self.same([values[0] > 0, values[1]], [True, 0])
            return
        p, q = ratio
        self.same([values[1] > 0, q * values[0] == p * values[1], gcd(p, q)], [True, True, 1])
        self.same(is_witness(value=found, ratio=ratio, facts=facts, other=other, one=one), True)
        for wrong in ((p + 1, q), (p - 1, q), (p, q + 1)):
            self.same(is_witness(one, other, facts, wrong, found), q * p * wrong[1] == q * q * wrong[0] and gcd(*wrong) == 1)
        bound = heights_under(q * one - p * other, facts)
        self.assertTrue(ruling.are_heights(q * one - p * other, facts, bound))
        self.same(is_below(q * one, p * other, facts), True)
        self.same(is_below(100 * q * one, (100 * p - 1) * other, facts), False)

    def bounds(self, numbers, book, facts):
        """Two expressions of which the second is often never below zero."""
        one, other = random_expression(numbers, book), random_expression(numbers, book)
        while type(other) is not type(one):
            other = random_expression(numbers, book)
        if isinstance(one, Question):
            more = Question.truth(book, book.names()[-1], 3) * numbers.randint(0, 2) + 2 * Question.showing(book, book.names()[-1]).late(3)
        else:
            more = numbers.randint(0, 1) * 2 * Whole.opening(book, book.names()[-1])
            for counter in book.counters():
                more = more + numbers.randint(0, 3) * Whole.rising(book, counter)
        return one, numbers.choice([other + more, more, 2 * other + 3 * more, -other + more])

    def test_against_the_definition(self):
        numbers = random.Random(13)
        seen = {}
        for book in walking.SMALL_BOOKS:
            for _ in range(150):
                facts = ruling.random_facts(numbers, book, 2)
                one, other = self.bounds(numbers, book, facts)
                if len(ruling.names_of([one, other], facts)) <= 6:
                    kind = self.kind_of(one, other, facts)
                    seen[kind] = seen.get(kind, 0) + 1
        self.assertEqual(len(seen), 10, seen)
        self.assertGreater(min(seen.values()), 3, seen)

    def kind_of(self, one, other, facts):
        zero = 0 * other
        kind = type(one).__name__
        if not is_below(zero, other, facts):
            for call in (least_factor, factor_evidence):
                with self.assertRaises(BelowZero) as caught:
                    call(one, other, facts)
                self.same(is_breaking_under(-other, facts, caught.exception.found), True)
            return kind, "below"
        if is_below(other, zero, facts):
            self.refuses(ZeroBound, {}, least_factor, one, other, facts)
            self.refuses(ZeroBound, {}, factor_evidence, one, other, facts)
            return kind, "zero"
        ratio = least_factor(one, other, facts)
        found = factor_evidence(one, other, facts)
        self.papers(one, other, facts, ratio, found)
        if ratio is None:
            return kind, "none"
        return kind, "ring" if found[0] == "ring" else "less" if ratio[0] < 1 else "more"

    def test_long_weights(self):
        far = 10 ** 21 - 1
        for one, other, facts, wanted in (
            (far * PARTS, (far - 1) * PARTS, NONE, (far, far - 1)), (far * step("a") - 7 * step("b"), PARTS, NONE, (far, 1)),
            (RISE, far * PARTS, NEVER, (1, far)), (RISE, far * PARTS, NONE, None), (PARTS - far * step("a"), far * PARTS, NONE, (1, far)),
            (far * step("a") + (far - 2) * step("b"), (far - 4) * step("a") + (far - 6) * step("b"), NONE, (far - 2, far - 6)),
        ):
            self.agrees(one, other, facts, wanted)
        rise, a, b = Whole.rising(BOOK, "s"), Whole.rising(BOOK, "a"), Whole.rising(BOOK, "b")
        start = Whole.opening(BOOK, "s")
        for one, other, facts, wanted in (
            (far * rise, TRUTH, NONE, None), (far * a + b - far * start, (far - 2) * a + 3 * b, NONE, (far, far - 2)),
            (far * rise, far * TRUTH + (far - 1) * start, Facts(AtMost("s", 59)), (60, 1)),
            (far * rise, 2 * far * TRUTH + (far - 1) * start, Facts(AtMost("s", 59)), (59 * far, far - 1)),
        ):
            self.agrees(one, other, facts, wanted)

    def test_many_steps_to_the_least_factor(self):
        """One and other differ at many walks, each with a ratio a little greater than that of another one."""
        numbers = random.Random(14)
        for facts in (NONE, Facts(Apart("s", 2)), Facts(AtMost("a", 2))):
            one, other = ZERO, ZERO
            for ago in range(8):
                one = one + numbers.randint(1, 10 ** 20) * step("a", ago) + numbers.randint(1, 10 ** 20) * step("s", ago)
                other = other + numbers.randint(1, 10 ** 20) * step("a", ago) + numbers.randint(1, 10 ** 20) * step("s", ago)
            ratio = least_factor(one, other, facts)
            self.agrees(one, other, facts, ratio)

    def test_many_states_and_names(self):
        names = LARGE.names()
        one = Question.rising(LARGE, "all", 20)
        other = Question.rising(LARGE, "a", 20) + Question.showing(LARGE, "all").late(20) + one
        whole = sum_of(names[:5], Whole)
        for one, other, facts, wanted in (
            (one, other, Facts(AtMost("a", 19), Apart("all", 3)), (1, 1)), (whole + Whole.rising(LARGE, "a"), whole, Facts(AtMost("a", 19), Apart("b", 3)), (2, 1)),
        ):
            found = factor_evidence(one, other, facts)
            self.same([least_factor(one, other, facts), is_witness(one, other, facts, wanted, found)], [wanted, True])
            self.same(is_below(wanted[1] * one, wanted[0] * other, facts), True)

    def test_answers_are_new(self):
        found = factor_evidence(HEAVY, 2 * PARTS, NONE)
        found[0].clear()
        found[1].clear()
        self.same(is_witness(HEAVY, 2 * PARTS, NONE, (3, 2), factor_evidence(HEAVY, 2 * PARTS, NONE)), True)


class Walks(Case):
    def test_as_many_gaps_as_the_greater_span(self):
        one, other = HEAVY, 2 * PARTS + 2 * PARTS.late(1)
        self.same(least_factor(one, other, NONE), (3, 2))
        up = ([(0, 0), (0, 0), (1, 0)], [(), ()])
        self.same([is_witness(one, other, NONE, (3, 2), up), is_witness(other, one, NONE, (2, 3), up)], [True, True])
        for walk in (([(0, 0), (1, 0)], [()]), ([(0, 0)] * 3 + [(1, 0)], [()] * 3), ([(0, 0)], []), ([(0, 0), (1, 0), (1, 0)], [(), ()])):
            self.same(is_witness(one, other, NONE, (3, 2), walk), False)
        late = ([(0, 0), (1, 0), (1, 0)], [(), ("a",)])
        self.same([is_witness(one, other, NONE, (3, 4), late), is_witness(one, other, NONE, (3, 2), late)], [True, False])

    def test_letters_of_all_names(self):
        facts = Facts(NotBoth("a", "s"))
        self.same(is_obstacle(step("b"), step("a"), facts, ([(0, 1)] * 2, [("b", "s")])), True)
        for letter in (("b",), ("a", "s"), ("a", "b", "s"), ("s",), (), ("s", "b"), ("b", "t")):
            self.same(is_obstacle(step("b"), step("a"), facts, ([(0, 1)] * 2, [letter])), letter == ("b",))
        self.same(is_witness(step("b"), step("b") + step("a"), facts, (1, 1), ([(0, 1)] * 2, [("b",)])), True)

    def test_witnesses_with_one_thing_otherwise(self):
        right = ([(0, 0), (1, 0)], [()])
        self.same(is_witness(HEAVY, 2 * PARTS, NONE, (3, 2), (((0, 0), (1, 0)), ((),))), True)
        for wrong in (
            ([(0, 0), (0, 1)], [()]), ([(0, 0), (1, 1)], [()]), ([(1, 0), (1, 0)], [()]), ([(0, 0), (1, 0)], [("a",)]), ([(0, 0), (1, 0)], [("b",)]),
            ([[0, 0], (1, 0)], [()]), ([(0, 0), (True, 0)], [()]), ([(0, 0), (1, 0)], [[]]), [[(0, 0), (1, 0)], [()]], ([(0, 0), (1, 0)], [()], 0),
            ("journey", right), ("ring", (0, 0), [], [((), (1, 0))]),
        ):
            self.same([is_witness(HEAVY, 2 * PARTS, NONE, (3, 2), wrong), is_obstacle(HEAVY, PARTS, NONE, wrong)], [wrong == ([(0, 0), (1, 0)], [("b",)])] + [False])
        for ratio in ((6, 4), (-3, -2), [3, 2], (3, 2, 1), (3,), 1, None, ANY, "3/2", (3.0, 2), (True, 1), (3, True), (ANY, ANY), (0, 0), (3, 0), {}, 1.5):
            self.same(is_witness(HEAVY, 2 * PARTS, NONE, ratio, right), False)

    def test_obstacles_and_witnesses_differ(self):
        """They tell no more than what is said of them: a witness need not be of a factor, and both may be there."""
        both = ([(0, 1), (0, 1)], [("a", "s")])
        self.same([is_obstacle(RISE, PARTS, NONE, both), is_witness(RISE, PARTS, NONE, (1, 1), both)], [True, False])
        up = ([(0, 0), (1, 0)], [()])
        self.same([is_witness(RISE, PARTS, NONE, (1, 1), up), is_obstacle(RISE, PARTS, NONE, up)], [True, False])
        self.same(is_obstacle(-RISE, PARTS, NONE, both), False)
        self.same(is_witness(PARTS, -PARTS, NONE, (-1, 1), up), False)
        self.same([is_witness(PARTS, EXCESS, NONE, (1, 1), both), is_witness(ZERO, EXCESS, NONE, (0, 1), both)], [False, True])
        self.same([is_obstacle(PARTS, ZERO, NONE, up), is_witness(PARTS, ZERO, NONE, (0, 1), up)], [True, False])

    def test_facts_of_walks(self):
        two = RISE + RISE.late(1)
        falls = ([(0, 1)] * 3, [("a", "s")] * 2)
        for facts, wanted in ((NONE, True), (NEVER, False), (Facts(AtMost("s", 1)), False), (Facts(Apart("s", 2)), False), (Facts(AtMost("a", 2)), True)):
            self.same(is_obstacle(two, PARTS, facts, falls), wanted)
        self.same(is_obstacle(two, PARTS, Facts(Apart("s", 2)), ([(0, 1)] * 3, [("a", "s"), ()])), True)


class Rings(Case):
    def test_rings_and_journeys(self):
        rise = Whole.rising(BOOK, "s")
        for value, obstacle in (
            (("ring", (0, 1), [], [FALL]), True), (("ring", (0, 1), (), (FALL,)), True), (("ring", (0, 0), [((), (0, 1))], [FALL]), True),
            (("ring", (0, 0), [((), (0, 1)), STAY, FALL], [STAY, FALL]), True), (("ring", (0, 1), [], [STAY]), False), (("ring", (0, 1), [], []), False),
            (("ring", (0, 1), [FALL], []), False), (("ring", (0, 0), [], [FALL]), False), (("ring", (0, 0), [], [((), (0, 1)), FALL]), False),
            (("journey", ((0, 1), [([FALL], 1)])), True), (("journey", ((0, 1), [([FALL], 10 ** 30)])), True), (("journey", ((0, 1), [])), False),
            (("journey", ((0, 0), [([((), (0, 1))], 1), ([FALL], 5)])), False), (("journey", (0, 1), [], [FALL]), False), (("ring", ((0, 1), [([FALL], 1)])), False),
            (("Ring", (0, 1), [], [FALL]), False), (["ring", (0, 1), [], [FALL]], False), (("ring", [0, 1], [], [FALL]), False), (("ring", (0, 1), [FALL]), False),
            (("ring", (0, 1), [], [FALL], []), False), (("ring", (0, 1), None, [FALL]), False), (("ring", (0, 1), [], {FALL: 1}), False), (("ring", (0, True), [], [FALL]), False),
            ((ANY, (0, 1), [], [FALL]), False), ((ANY, ((0, 1), [([FALL], 1)])), False), (("ring", (0, 1), [], [list(FALL)]), False), (("ring", (0, 1), [], [FALL + (1,)]), False),
            (("ring", (0, 1), [], [(["a", "s"], (0, 1))]), False), (("ring", (0, 1), [], [(("s", "a"), (0, 1))]), False), (("ring", (0, 1), [], [(("s",), (0, 1))]), False),
            (((0, 1), [([FALL], 1)]), False), ((None, ((0, 1), [([FALL], 1)])), False), (("ring", None, [], [FALL]), False), (("ring", (0, 1), [], None), False),
        ):
            self.assertEqual(is_obstacle(rise, TRUTH, NONE, value), obstacle, value)
            self.same(is_witness(rise, TRUTH + rise, NONE, (1, 1), value), obstacle or value == ("journey", ((0, 0), [([((), (0, 1))], 1), ([FALL], 5)])) and False)

    def test_values_of_rings_are_those_of_their_moves_alone(self):
        rise = Whole.rising(BOOK, "s") + 100 * Whole.opening(BOOK, "s") - 7 * Whole.closing(BOOK, "s")
        ring = ("ring", (0, 0), [((), (0, 1)), FALL], [FALL, STAY])
        self.same([is_obstacle(rise, TRUTH, NONE, ring), is_obstacle(TRUTH, rise, NONE, ring)], [True, False])
        self.same([is_witness(2 * rise, 3 * FAR, NONE, (2, 3), ring), is_witness(2 * rise, 3 * FAR, NONE, (1, 3), ring)], [True, False])
        journey = ("journey", ((0, 0), [([((), (0, 1)), FALL, FALL, STAY], 1)]))
        self.same([is_witness(rise, TRUTH, NONE, (-4, 1), journey), is_obstacle(rise, TRUTH, NONE, journey)], [True, False])

    def test_states_of_rings(self):
        rise = Whole.rising(BOOK, "s")
        for facts, before, moves, wanted in (
            (Facts(AtMost("s", 5)), [], [FALL], False), (Facts(AtMost("b", 5)), [], [FALL], True), (Facts(Apart("s", 2)), [], [FALL], False),
            (Facts(Apart("s", 2)), [], [FALL, STAY], True), (Facts(Apart("s", 2)), [FALL], [STAY, FALL], True), (Facts(Apart("s", 2)), [], [STAY, FALL], False),
            (Facts(Apart("s", 3)), [FALL], [STAY, FALL], False), (Facts(AtMost("s", 1)), [FALL], [STAY], False), (NEVER, [], [FALL], False),
            (Facts(Apart("s", 2)), [FALL, FALL], [STAY, FALL], False),
        ):
            self.same(is_obstacle(rise, TRUTH, facts, ("ring", (0, 1), before, moves)), wanted)

    def test_values_of_any_kind(self):
        for one, other in ((RISE, PARTS), (Whole.rising(BOOK, "s"), TRUTH)):
            for value in ODD_VALUES + [("journey", None), ("ring", (0, 1), [], [None]), ("journey",), ("ring",), ("ring", 1, 2, 3), "ring", ("journey", ((0, 1), None))]:
                self.same([is_obstacle(one, other, NONE, value), is_witness(one, other, NONE, (1, 1), value)], [False, False])


class Refused(Case):
    def calls(self, one, other, facts):
        yield least_factor, one, other, facts
        yield factor_evidence, one, other, facts
        yield is_witness, one, other, facts, None, None
        yield is_obstacle, one, other, facts, None

    def refused(self, error, attributes, one, other, facts):
        for call in self.calls(one, other, facts):
            self.refuses(error, attributes, *call)

    def test_kinds_and_books(self):
        bad = Facts(AtMost("zz", 100))
        whole = Whole.rising(walking.PLAIN, "a")
        self.refused(InvalidQuestion, {"value": whole}, RISE, whole, bad)
        self.refused(InvalidQuestion, {"value": RISE}, whole, RISE, bad)
        self.refused(OtherBook, {}, RISE, step("a", 0, walking.PLAIN), bad)
        self.refused(OtherBook, {}, whole, Whole.rising(BOOK, "a"), bad)

    def test_names(self):
        names = LARGE.names()
        for kind in (Question, Whole):
            bad = Facts(AtMost("zz", 100), NeverFalls("yy"))
            self.refused(UnknownName, {"value": "yy"}, sum_of(names, kind), sum_of(names, kind), bad)
            for one, other, more in ((names[:6], names[6:7], []), (names[:3], names[3:6], names[6:7]), (names[:7], names[:7], []), ([], [], names[:7])):
                facts = Facts(*[AtMost(name, 70) for name in more])
                self.refused(TooMany, {"what": "names", "limit": 6}, sum_of(one, kind), sum_of(other, kind), facts)
            self.same(least_factor(sum_of(names[:3], kind), sum_of(names[:4], kind), Facts(NotBoth(names[4], names[5]))), (1, 1))

    def test_states(self):
        for one, other in ((RISE, PARTS), (Whole.rising(BOOK, "s"), TRUTH), (RISE, EXCESS), (RISE, ZERO)):
            self.refused(TooMany, {"what": "states", "limit": 60}, one, other, Facts(AtMost("a", 60)))

    def test_below_zero(self):
        for one, other, facts in (
            (PARTS, EXCESS, NONE), (ZERO, -RISE, NONE), (RISE, -PARTS, NEVER), (PARTS, EXCESS + EXCESS.late(4), Facts(AtMost("s", 1))),
            (Whole.rising(BOOK, "s"), FAR, NONE), (TRUTH, Whole.net(BOOK, "b"), NEVER), (TRUTH, -Whole.opening(BOOK, "a"), Facts(Apart("b", 3))),
        ):
            for call in (least_factor, factor_evidence):
                with self.assertRaises(BelowZero) as caught:
                    call(one, other, facts)
                self.same([list(vars(caught.exception)), is_breaking_under(-other, facts, caught.exception.found)], [["found"], True])
        self.same(is_obstacle(PARTS, EXCESS, NONE, ([(0, 0), (1, 0)], [()])), True)

    def test_zero_bounds(self):
        never = Facts(NeverFalls("a"), NeverFalls("b"))
        for one, other, facts in (
            (PARTS, ZERO, NONE), (ZERO, ZERO, NONE), (-PARTS, ZERO, NEVER), (PARTS, step("s") - PARTS, never), (RISE, Question.rising(BOOK, "s", 9) - Question.truth(BOOK, "s", 9), never),
            (TRUTH, Whole.zero(BOOK), NONE), (-TRUTH, Whole.zero(BOOK), NEVER), (TRUTH, FAR, never), (Whole.zero(BOOK), Whole.net(BOOK, "a") - Whole.rising(BOOK, "a"), never),
        ):
            self.refuses(ZeroBound, {}, least_factor, one, other, facts)
            self.refuses(ZeroBound, {}, factor_evidence, one, other, facts)
        self.same(is_obstacle(PARTS, ZERO, NONE, ([(0, 0), (1, 0)], [()])), True)
        self.same(is_obstacle(TRUTH, FAR, never, ("journey", ((0, 0), [([((), (1, 0))], 1)]))), True)


if __name__ == "__main__":
    unittest.main()
