import copy
import random
import unittest
from unittest.mock import ANY

from surerise.errors import BelowZero, InvalidClaim, ZeroBound
from surerise.facts import Apart, AtMost, Fact, NeverFalls, NotBoth, OnlyWith
from surerise.factors import least_factor
from surerise.factsets import Facts
from surerise.judge import KINDS, certificate_of, is_certificate, is_claim
from surerise.determined import least_gaps
from surerise.questions import Question
from surerise.rows import Row
from surerise.stores import Store
from surerise.under import is_below
from surerise.wholes import Whole
from tests import ruling, storing, walking
from tests.support import NO_COUNTS, NO_LISTS, Case
from tests.test_factors import HEAVY, PARTS, RISE, TRUTH, ZERO
from tests.test_stores import rise
from tests.test_under import EXCESS, FAR, LARGE, NEVER, NONE, random_expression, step, sum_of

BOOK = walking.BOOK
STORE = Store(BOOK, {"four": rise("a", 4), "six": rise("a", 6), "b": step("b")})
TWO = rise("a", 2)
LAND = Whole.rising(BOOK, "s")
OTHERS = NO_LISTS + [[], (), ROW := Row(BOOK, [[9, 5], [1, 6]]), STORE, RISE, FAR, NEVER, 1.5, ((),), ([],), (0, 1), ANY]
CLAIMS = [
    ("never above", RISE, PARTS, NEVER), ("above", RISE, PARTS, NONE), ("never above", LAND, TRUTH, NEVER), ("above", LAND, TRUTH, NONE),
    ("factor", HEAVY, 2 * PARTS, NONE, (3, 2)), ("factor", RISE, PARTS, NONE, None), ("factor", LAND, TRUTH, NONE, None),
    ("factor", LAND, TRUTH, NEVER, (1, 1)), ("factor", LAND, Whole.opening(BOOK, "s") + TRUTH, Facts(AtMost("s", 4)), (5, 1)),
    ("determined", STORE, TWO), ("open", STORE, TWO, 5), ("open", STORE, step("a"), 60), ("determined", STORE, ZERO),
]
FALSE = [
    ("never above", RISE, PARTS, NONE), ("above", RISE, PARTS, NEVER), ("never above", LAND, TRUTH, NONE), ("above", LAND, TRUTH, NEVER),
    ("factor", HEAVY, 2 * PARTS, NONE, (5, 3)), ("factor", HEAVY, 2 * PARTS, NONE, (1, 1)), ("factor", HEAVY, 2 * PARTS, NONE, None),
    ("factor", RISE, PARTS, NONE, (1, 1)), ("factor", LAND, TRUTH, NEVER, (2, 1)), ("factor", LAND, TRUTH, NEVER, None), ("factor", LAND, TRUTH, NONE, (7, 1)),
    ("factor", PARTS, EXCESS, NONE, (1, 1)), ("factor", PARTS, EXCESS, NONE, None), ("factor", -PARTS, ZERO, NONE, None), ("factor", -PARTS, ZERO, NONE, (0, 1)),
    ("factor", ZERO, ZERO, NONE, (0, 1)), ("factor", PARTS, ZERO, NONE, (1, 1)), ("factor", LAND, FAR, NONE, None),
    ("determined", STORE, step("a")), ("open", STORE, TWO, 6), ("open", STORE, TWO, 60), ("open", STORE, ZERO, 0),
]


class Claims(Case):
    def test_kinds(self):
        self.same(KINDS, ("never above", "above", "factor", "determined", "open"))

    def test_claims(self):
        for claim in CLAIMS + FALSE:
            self.same([is_claim(claim), is_claim(value=claim)], [True, True])

    def test_values_of_any_kind(self):
        for value in OTHERS + ["never above", ("never above",), KINDS, ("above", RISE), ("open", STORE)]:
            self.refused(value)

    def refused(self, value):
        self.same(is_claim(value), False)
        for call, more in ((certificate_of, ()), (is_certificate, (None,))):
            self.refuses(InvalidClaim, {"value": value}, call, value, *more)

    def test_one_part_of_another_kind(self):
        shown = Question.showing(BOOK, "a")
        for claim in CLAIMS:
            for at in range(len(claim)):
                for value in OTHERS + [shown, ("determined", STORE), Facts, Store, Fact, "above ", "Above", NeverFalls("a"), [NeverFalls("a")]]:
                    wrong = claim[:at] + (value,) + claim[at + 1:]
                    if not self.fits(claim, at, value):
                        self.refused(wrong)
            self.refused(list(claim))
            for at in range(len(claim)):
                self.refused(claim[:at] + claim[at + 1:])
                for value in (None, NONE, claim[at], (1, 1)):
                    if claim[0] in ("factor", "open") or not (at == len(claim) - 1 and claim[0] != "determined"):
                        self.refused(claim[:at + 1] + (value, value) + claim[at + 1:])
                    self.refused(claim + (value,))

    def fits(self, claim, at, value):
        """Whether a value may stand in a claim in the place of one of its parts."""
        if at == 0:
            return False
        kind = claim[0]
        if kind in ("determined", "open"):
            if at == 1:
                return isinstance(value, Store)
            if at == 2:
                return isinstance(value, Question) and value.book == BOOK and not value.readings() and "s" not in value.asked()
            return value is not True and isinstance(value, int) and value >= claim[2].span
        if at in (1, 2):
            return isinstance(value, type(claim[1]))
        return isinstance(value, Facts) if at == 3 else value is None or value in ((0, 1),) and value is not ANY

    def test_other_books(self):
        plain = walking.PLAIN
        other = Store(plain, {"x": step("a", 0, plain)})
        for claim in (
            ("never above", step("a"), step("a", 0, plain), NONE), ("above", Whole.rising(plain, "a"), LAND, NONE), ("factor", RISE, step("a", 0, plain), NONE, None),
            ("determined", other, step("a")), ("open", STORE, step("a", 0, plain), 5), ("never above", RISE, TRUTH, NONE), ("factor", LAND, PARTS, NONE, (1, 1)),
        ):
            self.refused(claim)
        self.same(is_claim(("determined", other, step("a", 0, plain))), True)

    def test_names_of_facts(self):
        for name in ("c", "zz", "z9"):
            for kind in ("never above", "above"):
                self.refused((kind, RISE, PARTS, Facts(NeverFalls(name))))
                self.refused((kind, LAND, TRUTH, Facts(NeverFalls("s"), OnlyWith("a", name))))
            self.refused(("factor", RISE, PARTS, Facts(NotBoth(name, "a")), (1, 1)))

    def test_ratios(self):
        for ratio in ((2, 4), (1, -1), (True, 1), (1, True), (1.0, 1), (1,), (1, 1, 1), [1, 1], "1", 1, 0, (0, 2), (0, 0), (None, 1), ANY, (ANY, 1), False):
            self.refused(("factor", RISE, PARTS, NONE, ratio))
        for ratio in ((0, 1), (-3, 7), (10 ** 39, 3)):
            self.same(is_claim(("factor", RISE, PARTS, NONE, ratio)), True)

    def test_six_and_seven_names(self):
        names = LARGE.names()
        for kind in (Question, Whole):
            six, seven = sum_of(names[:6], kind), sum_of(names[:7], kind)
            more = Facts(NeverFalls(names[6]))
            for word in ("never above", "above"):
                self.refused((word, six, 0 * six, more))
                self.refused((word, seven, 0 * six, NONE))
                self.same([is_claim((word, six, -six, NONE)), is_claim((word, seven, seven, NONE)), is_claim((word, seven, seven - six, NONE))], [True] * 3)
            self.refused(("factor", six, seven, NONE, None))
            self.refused(("factor", seven, seven, NONE, (1, 1)))
            self.refused(("factor", six, sum_of(names[5:7], kind), NONE, (1, 1)))
            self.same(is_claim(("factor", six, six, Facts(NeverFalls(names[0])), (1, 1))), True)

    def test_sixty_states_and_more(self):
        for claim in CLAIMS[:9]:
            for facts, wanted in ((Facts(AtMost("a", 59)), True), (Facts(Apart("b", 60)), True), (Facts(AtMost("a", 60)), False), (Facts(Apart("b", 61)), False)):
                changed = claim[:3] + (facts,) + claim[4:]
                self.same(is_claim(changed), wanted)
                if not wanted:
                    self.refused(changed)

    def test_gaps(self):
        for value in NO_COUNTS + [0, 1, 61, 100, 10 ** 30]:
            self.refused(("open", STORE, TWO, value))
        for gaps in (2, 3, 59, 60):
            self.same(is_claim(("open", STORE, TWO, gaps)), True)
        self.refused(("open", STORE, step("a", 60), 60))
        self.refused(("open", STORE, step("a", 60), 61))
        self.same([is_claim(("open", STORE, step("a", 59), 60)), is_claim(("determined", STORE, step("a", 99)))], [True, True])

    def test_entangled_names_and_readings(self):
        for question in (step("s"), PARTS + step("s", 3), TWO + Question.showing(BOOK, "b"), Question.showing(BOOK, "a").late(2)):
            self.refused(("determined", STORE, question))
            self.refused(("open", STORE, question, 9))
        self.same(is_claim(("determined", Store(BOOK, {"x": step("a")}), step("s"))), True)


class Certificates(Case):
    def test_example(self):
        claim = ("never above", RISE, PARTS, NEVER)
        self.same([is_certificate(claim, certificate_of(claim)), certificate_of(("above",) + claim[1:])], [True, None])

    def test_true_and_false_claims(self):
        for claim in CLAIMS:
            found = certificate_of(claim=claim)
            self.assertIsNotNone(found)
            self.same([is_certificate(claim, found), is_certificate(value=found, claim=claim)], [True, True])
        for claim in FALSE:
            self.same(certificate_of(claim), None)

    def test_certificates_of_other_claims(self):
        """A certificate is accepted for no other claim that is false."""
        papers = [certificate_of(claim) for claim in CLAIMS]
        for claim in FALSE:
            for paper in papers:
                self.same(is_certificate(claim, paper), False)

    def test_one_of_a_claim_and_its_contrary(self):
        numbers = random.Random(41)
        seen = {True: 0, False: 0}
        for book in (BOOK, walking.THREE, walking.PLAIN):
            for _ in range(60):
                expression, facts = random_expression(numbers, book), ruling.random_facts(numbers, book)
                if len(ruling.names_of([expression], facts)) > 6:
                    continue
                other = random_expression(numbers, book)
                if type(other) is not type(expression) or len((expression + other).asked() + facts.names()) > 6:
                    other = 0 * expression
                parts = (expression + other, other, facts)
                below, above = certificate_of(("never above",) + parts), certificate_of(("above",) + parts)
                self.same([below is None, above is None], [above is not None, below is not None])
                self.same([is_certificate(("never above",) + parts, below), is_certificate(("above",) + parts, above)], [below is not None, above is not None])
                seen[below is None] += 1
        self.assertGreater(min(seen.values()), 40)

    def test_determined_or_open(self):
        numbers = random.Random(42)
        seen = {True: 0, False: 0}
        for _ in range(60):
            store = storing.random_store(numbers, BOOK, ["a", "s"])
            question = storing.random_rises(numbers, BOOK, ["a", "s"], numbers.randint(1, 4))
            if numbers.random() < 0.5:
                name = numbers.choice(store.names())
                question = 3 * store.series(name).late(numbers.randint(0, 3)) - question * numbers.randint(0, 1)
            found = certificate_of(("determined", store, question))
            gaps = least_gaps(store, question)
            seen[found is None] += 1
            self.same([found is None, is_certificate(("determined", store, question), found)], [gaps is None, gaps is not None])
            for many in range(question.span, 10):
                claim = ("open", store, question, many)
                rows = certificate_of(claim)
                self.same([rows is None, is_certificate(claim, rows)], [gaps is not None and many >= gaps, gaps is None or many < gaps])
                if rows and many < 9:
                    self.same(is_certificate(("open", store, question, many + 1), rows), False)
        self.assertGreater(min(seen.values()), 15)

    def test_factors(self):
        numbers = random.Random(43)
        seen = {}
        for book in (BOOK, walking.PLAIN, walking.ONE):
            for _ in range(80):
                one, other, facts = self.bounds(numbers, book)
                if len(ruling.names_of([one, other], facts)) > 6:
                    continue
                ratio = self.factor(one, other, facts)
                seen[ratio if isinstance(ratio, str) else type(ratio)] = seen.get(ratio if isinstance(ratio, str) else type(ratio), 0) + 1
                for claimed in (ratio, None, (1, 1), (0, 1), (1, 2)):
                    if isinstance(claimed, str):
                        continue
                    claim = ("factor", one, other, facts, claimed)
                    found = certificate_of(claim)
                    true = claimed == ratio or (ratio == "zero" and claimed is None and not is_below(one, 0 * one, facts))
                    self.same([found is not None, is_certificate(claim, found)], [true, true])
        self.assertEqual(set(seen), {"below", "zero", tuple, type(None)})

    def bounds(self, numbers, book):
        facts = ruling.random_facts(numbers, book, 2)
        one, other = random_expression(numbers, book), random_expression(numbers, book)
        while type(one) is not type(other):
            other = random_expression(numbers, book)
        kind = type(one)
        if kind is Question:
            more = 2 * Question.truth(book, book.names()[-1], 3) + 3 * Question.showing(book, book.names()[-1]).late(3)
        else:
            more = sum([2 * Whole.rising(book, counter) for counter in book.counters()], 2 * Whole.opening(book, book.names()[-1]))
        return one, numbers.choice([other + more, more, more, 0 * other, 3 * more - other]), facts

    def factor(self, one, other, facts):
        try:
            return least_factor(one, other, facts)
        except BelowZero:
            return "below"
        except ZeroBound:
            return "zero"

    def test_zero_bounds_with_an_obstacle(self):
        never = Facts(NeverFalls("a"), NeverFalls("b"))
        for claim in (("factor", PARTS, ZERO, NONE, None), ("factor", RISE, EXCESS, never, None), ("factor", TRUTH, FAR, never, None)):
            found = certificate_of(claim)
            self.same([is_certificate(claim, found), found[1]], [True, None])
            self.same(certificate_of(claim[:4] + ((1, 1),)), None)


class Spoilt(Case):
    def test_values_of_any_kind(self):
        for claim in CLAIMS + FALSE:
            for value in OTHERS + [{}, ("ring", (0, 1), [], []), (None, None, None), (ANY, ANY, ANY), ([], [], [])]:
                wanted = claim == ("determined", STORE, ZERO) and value == {} and isinstance(value, dict)
                if not (claim[0] == "above" and value is ROW):
                    self.same(is_certificate(claim, value), wanted)

    def test_heights(self):
        for claim in (CLAIMS[0], CLAIMS[2]):
            right = certificate_of(claim)
            tables = right if isinstance(right, list) else [right]
            for at, table in enumerate(tables):
                for key in table:
                    for change in (-1, 1):
                        spoilt = copy.deepcopy(tables)
                        spoilt[at][key] += change
                        value = spoilt if isinstance(right, list) else spoilt[0]
                        self.same(is_certificate(claim, value), ruling.are_heights(claim[1] - claim[2], claim[3], value))
                        del spoilt[at][key]
                        self.same(is_certificate(claim, spoilt if isinstance(right, list) else spoilt[0]), False)

    def test_rows_and_journeys(self):
        claim = ("above", RISE, PARTS, NONE)
        for row, wanted in ((Row(BOOK, [[9, 5], [1, 6]]), True), (Row(BOOK, [[9, 5], [9, 6]]), False), (Row(BOOK, [[9, 5]]), False), (Row(walking.PLAIN, [[9, 5], [1, 6]]), False),
                            (Row(BOOK, [[0, 0], [9, 5], [1, 6]]), True)):
            self.same(is_certificate(claim, row), wanted)
        self.same(is_certificate(("above", RISE, PARTS, Facts(AtMost("b", 0))), Row(BOOK, [[9, 5], [1, 6]])), True)
        self.same(is_certificate(("above", RISE, PARTS, Facts(AtMost("a", 0))), Row(BOOK, [[9, 5], [1, 6]])), False)
        fall = (("a", "s"), (0, 1))
        claim = ("above", LAND, TRUTH, Facts(AtMost("s", 3)))
        for journey, wanted in ((((0, 1), [([fall], 1)]), True), (((0, 1), [([fall, fall, fall], 1)]), True), (((0, 1), [([fall], 2)]), False), (((0, 1), []), False),
                                (((0, 1), [([fall] * 4, 1)]), False), (((1, 0), [([fall], 1)]), False)):
            self.same(is_certificate(claim, journey), wanted)

    def test_factors(self):
        for claim in CLAIMS[4:9]:
            bound, heights, evidence = certificate_of(claim)
            for wrong in (
                (heights, bound, evidence), (bound, evidence, heights), (bound, heights), (bound, heights, evidence, None), [bound, heights, evidence], (None, heights, evidence),
                (bound, bound if heights is None else None, evidence), (bound, heights, None), (bound, heights, bound), ({}, heights, evidence), (bound, heights, ("journey", evidence)),
                (bound, [] if heights is None else {}, evidence), (bound, 0 if heights is None else 0, evidence), (bound, False, evidence),
            ):
                # Some bounds are heights of both.
                self.same(is_certificate(claim, wrong), wrong == (bound, heights, evidence) and heights == bound)
            for at, table in ((0, bound), (1, heights)):
                if table is not None:
                    spoilt = copy.deepcopy([bound, heights, evidence])
                    first = spoilt[at][0] if isinstance(table, list) else spoilt[at]
                    key = next(key for key in first if key[1] == ruling.first(claim[3]))
                    first[key] = 5 * 10 ** 9
                    self.same(is_certificate(claim, tuple(spoilt)), False)
        self.same(is_certificate(CLAIMS[5], (certificate_of(CLAIMS[5])[0], None, certificate_of(CLAIMS[4])[2])), False)

    def test_the_same_papers_for_another_ratio(self):
        paper = certificate_of(CLAIMS[4])
        for ratio in ((1, 1), (2, 1), (5, 3), (-3, 2), None):
            self.same(is_certificate(CLAIMS[4][:4] + (ratio,), paper), False)

    def test_recipes_and_rows(self):
        claim = ("determined", STORE, TWO)
        for value, wanted in (({("six", 0): (1, 1), ("four", 2): (-1, 1)}, True), ({("six", 0): (1, 1), ("four", 1): (-1, 1)}, False), ({}, False)):
            self.same(is_certificate(claim, value), wanted)
        claim = ("open", STORE, step("a"), 1)
        one, other = Row(BOOK, [[9, 5], [1, 6]]), Row(BOOK, [[9, 5], [3, 6]])
        for value, wanted in (((one, other), True), ((other, one), True), ([one, other], False), ((one, one), False), ((one,), False), ((one, other, one), False),
                              ((one, Row(BOOK, [[9, 5], [3, 7]])), False), ((one, Row(BOOK, [[9, 5], [3, 6], [3, 6]])), False)):
            self.same(is_certificate(claim, value), wanted)
        self.same(is_certificate(("open", STORE, step("a"), 2), (one, other)), False)


if __name__ == "__main__":
    unittest.main()
