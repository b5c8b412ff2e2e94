import copy
import random
import unittest
from unittest.mock import ANY

from surerise.errors import InvalidQuestion, OtherBook, TooMany, UnknownName
from surerise.facts import Apart, AtMost, NeverFalls, NotBoth, OnlyWith
from surerise.factsets import Facts, states
from surerise.journeys import breaking_journey, is_journey, is_whole_heights, whole_heights
from surerise.letters import letter_of
from surerise.questions import Question
from surerise.rows import Row
from surerise.under import breaking_under, greatest_under, heights_under, is_below, is_breaking_under, is_heights_under
from surerise.under import is_journey_under, is_walk_under
from surerise.wholes import Whole
from surerise.windows import breaking_row, greatest, heights, is_heights, is_walk
from tests import ruling, walking
from tests.support import NO_INTEGERS, NO_LISTS, Case

BOOK = walking.BOOK
LARGE = walking.LARGE
NONE = Facts()
NEVER = Facts(NeverFalls("s"))
ROW = Row(BOOK, [[9, 5], [1, 6]])
ODD_VALUES = NO_LISTS + [[], (), [(0, 0), []], ((0, 0),), ((0, 0), [], []), (ANY, ANY), ("ab", []), 1.5, (None, []), ROW, Facts()]


def step(name, ago=0, book=BOOK):
    return Question.rising(book, name, 1).late(ago)


EXCESS = step("s") - Question.truth(BOOK, "s", 1)
FAR = Whole.rising(BOOK, "s") - Whole.rising(BOOK, "a") - Whole.rising(BOOK, "b")


def sum_of(names, kind=Question, book=LARGE):
    found = kind.zero(book)
    for name in names:
        found = found + (step(name, 0, book) if kind is Question else Whole.rising(book, name))
    return found


def random_expression(numbers, book):
    """A small question or whole, so that with its facts it has at most six names."""
    names = numbers.sample(book.names(), min(len(book.names()), 3))
    if numbers.random() < 0.5:
        question = walking.random_question(numbers, book, numbers.randint(0, 3), names, 1)
        return question - numbers.randint(0, 2) * Question.truth(book, names[0], 2)
    whole = Whole.zero(book)
    for name in names:
        whole = whole + numbers.randint(-2, 1) * Whole.rising(book, name)
    for counter in book.counters():
        whole = whole + numbers.randint(-1, 1) * Whole.opening(book, counter) + numbers.randint(-1, 0) * Whole.closing(book, counter)
    return whole


def examples(numbers, books, many):
    for book in books:
        done = 0
        while done < many:
            facts, expression = ruling.random_facts(numbers, book), random_expression(numbers, book)
            if len(ruling.names_of([expression], facts)) <= 6:
                done += 1
                yield expression, facts


def journey_told(journey):
    column, blocks = journey
    return column, [move for moves, times in blocks for move in list(moves) * times]


def follows(expression, facts, column, moves):
    """Whether moves are right under facts, and the places on the way, looked up one by one."""
    names = ruling.names_of([expression], facts)
    places = [(column, ruling.first(facts))]
    for letter, goal in moves:
        before, state = places[-1]
        if (before, letter, goal) not in walking.moves(expression.book, names) or not ruling.allowed(facts, state, letter):
            return None
        places.append((goal, ruling.behind(facts, state, letter)))
    return places


def journey_value(whole, journey):
    column, blocks = journey
    total = ruling.shown(whole.firsts(), whole.book, column)
    for moves, times in blocks:
        for letter, goal in moves:
            total += times * ruling.worth(whole.rises(), whole.book, column, letter, goal)
            column = goal
    return total + ruling.shown(whole.lasts(), whole.book, column)


class Bounds(Case):
    def test_example(self):
        self.same([is_below(EXCESS, Question.zero(BOOK), NEVER), greatest_under(EXCESS, NONE)], [True, 1])

    def test_the_overview(self):
        """The rise of s, if it never falls, or falls only where a and b both fall."""
        for kind in (Question, Whole):
            expression = EXCESS if kind is Question else FAR
            zero = kind.zero(BOOK)
            for facts, wanted in (
                (NONE, False), (NEVER, True), (Facts(OnlyWith("s", "a")), False), (Facts(OnlyWith("s", "a"), OnlyWith("s", "b")), True),
                (Facts(NeverFalls("a")), False), (Facts(NeverFalls("a"), NeverFalls("b")), True), (Facts(AtMost("s", 0)), True),
                (Facts(AtMost("s", 1)), False), (Facts(Apart("s", 50)), False), (Facts(NotBoth("a", "s"), NotBoth("b", "s")), True),
            ):
                self.same(is_below(expression, zero, facts), wanted)
                self.same(is_below(facts=facts, other=zero, one=expression), wanted)
                self.same([heights_under(expression, facts) is None, breaking_under(expression, facts) is None], [not wanted, wanted])

    def test_counts(self):
        """How often s may fall bounds how much more it rises, within the window."""
        rises = Question.rising(BOOK, "s", 5) - Question.truth(BOOK, "s", 5)
        for facts, wanted in (
            (NONE, 5), (Facts(AtMost("s", 3)), 3), (Facts(AtMost("s", 9)), 5), (Facts(AtMost("s", 0)), 0), (Facts(Apart("s", 2)), 3),
            (Facts(Apart("s", 3)), 2), (Facts(Apart("s", 5)), 1), (Facts(Apart("s", 4)), 2), (Facts(Apart("s", 2), AtMost("s", 2)), 2),
            (Facts(AtMost("a", 1), AtMost("b", 1)), 2),
        ):
            self.same([greatest_under(rises, facts), greatest_under(facts=facts, question=rises)], [wanted, wanted])
        whole = Whole.rising(BOOK, "s") - 2 * Whole.opening(BOOK, "s")
        for falls, wanted in ((0, True), (2, True), (3, False), (9, False)):
            self.same(is_below(whole, 3 * Whole.rising(BOOK, "a") + 3 * Whole.rising(BOOK, "b"), Facts(AtMost("s", falls))), wanted)

    def test_names_that_only_facts_have(self):
        rise = step("s") - Question.truth(BOOK, "s", 1)
        for question in (rise, step("s", 0) - step("a") - step("b") + step("s", 1) - step("s", 1)):
            self.same(greatest_under(question, Facts(NotBoth("a", "s"), NotBoth("b", "s"))), 0)
        one = Question.rising(BOOK, "a", 2) - Question.showing(BOOK, "a")
        for facts, wanted in ((NONE, 1), (Facts(NeverFalls("s"), NeverFalls("b")), 1), (Facts(NeverFalls("s"), NeverFalls("b"), AtMost("a", 0)), 0)):
            self.same(greatest_under(one, facts), wanted)
        self.same(is_below(Whole.rising(BOOK, "a"), Whole.net(BOOK, "a"), Facts(OnlyWith("a", "s"), NeverFalls("s"))), True)
        self.same(is_below(Whole.rising(BOOK, "a"), Whole.net(BOOK, "a"), NEVER), False)

    def test_against_all_walks(self):
        numbers = random.Random(5)
        seen = {}
        for expression, facts in examples(numbers, walking.SMALL_BOOKS, 60):
            wanted = self.all_agree(expression, facts)
            seen[type(expression), wanted] = seen.get((type(expression), wanted), 0) + 1
            more = facts & ruling.random_fact(numbers, expression.book)
            if wanted and len(ruling.names_of([expression], more)) <= 6:
                self.same(is_below(expression, 0 * expression, more), True)
        self.assertEqual(len(seen), 4)
        self.assertGreater(min(seen.values()), 20)

    def all_agree(self, expression, facts):
        """Compares all answers about an expression with each other, and with slow ways; whether it is never above zero."""
        found, broken = heights_under(facts=facts, expression=expression), breaking_under(facts=facts, expression=expression)
        self.same(found is None, broken is not None)
        self.same(is_below(expression, 0 * expression, facts), broken is None)
        if isinstance(expression, Question):
            most = ruling.greatest(expression, facts)
            self.same([greatest_under(expression, facts), broken is None], [most, most == 0])
        if broken is None:
            self.assertTrue(ruling.are_heights(expression, facts, found))
            self.same(is_heights_under(value=found, facts=facts, expression=expression), True)
            self.same(is_breaking_under(expression, facts, None), False)
        elif isinstance(expression, Question):
            self.same([broken.gaps, ruling.kept(facts, broken)], [expression.span, True])
            self.assertGreater(walking.value_at_row(expression, broken), 0)
            self.same(is_breaking_under(value=broken, facts=facts, expression=expression), True)
        else:
            self.same(is_breaking_under(value=broken, facts=facts, expression=expression), True)
            self.assertGreater(journey_value(expression, broken), 0)
            self.right_journey(expression, facts, broken)
        return broken is None

    def right_journey(self, whole, facts, journey):
        column, blocks = journey
        once = [move for moves, _ in blocks for move in moves]
        places = follows(whole, facts, column, once)
        self.assertIsNotNone(places)
        at = 0
        for moves, times in blocks:
            self.assertTrue(times == 1 or places[at] == places[at + len(moves)])
            at += len(moves)

    def test_without_facts(self):
        numbers = random.Random(6)
        for book in walking.SMALL_BOOKS:
            for _ in range(30):
                expression = random_expression(numbers, book)
                if isinstance(expression, Question):
                    self.same(greatest_under(expression, NONE), greatest(expression))
                    self.same(breaking_under(expression, NONE) is None, breaking_row(expression) is None)
                    found = heights(expression)
                    with_states = found and [{(u, ()): h for u, h in table.items()} for table in found]
                    self.same(heights_under(expression, NONE) is None, found is None)
                    self.same(is_heights_under(expression, NONE, with_states), is_heights(expression, found))
                else:
                    self.same(breaking_under(expression, NONE) is None, breaking_journey(expression) is None)
                    found = whole_heights(expression)
                    self.same(heights_under(expression, NONE) is None, found is None)
                    self.same(is_heights_under(expression, NONE, found and {(u, ()): h for u, h in found.items()}), is_whole_heights(expression, found))
                self.same(is_below(expression, 0 * expression, NONE), expression <= 0 * expression)

    def test_more_facts(self):
        numbers = random.Random(7)
        for expression, facts in examples(numbers, [BOOK, walking.THREE], 40):
            for fact in facts.listed():
                if is_below(expression, 0 * expression, Facts(fact)):
                    self.same(is_below(expression, 0 * expression, facts), True)

    def test_rows_that_keep_the_facts(self):
        """No row that keeps the facts breaks a question that is never above zero under them."""
        numbers = random.Random(8)
        tried = 0
        for expression, facts in examples(numbers, [BOOK, walking.THREE], 60):
            below = is_below(expression, 0 * expression, facts)
            for _ in range(40):
                row = walking.random_row(numbers, expression.book, 4, 2)
                if below and ruling.kept(facts, row):
                    tried += 1
                    self.assertLessEqual(expression(row), 0)
                    self.same(is_breaking_under(expression, facts, row), False)
        self.assertGreater(tried, 100)


class Heights(Case):
    def test_right_and_spoilt(self):
        numbers = random.Random(9)
        seen = {}
        for expression, facts in examples(numbers, [BOOK, walking.PLAIN, walking.ONE], 60):
            found = heights_under(expression, facts)
            for _ in range(5 if found is not None else 0):
                spoilt = copy.deepcopy(found)
                for _ in range(numbers.randint(1, 3)):
                    table = numbers.choice(spoilt) if isinstance(expression, Question) else spoilt
                    table[numbers.choice(list(table))] += numbers.choice([-1, 1, 2])
                wanted = ruling.are_heights(expression, facts, spoilt)
                seen[type(expression), wanted] = seen.get((type(expression), wanted), 0) + 1
                self.same(is_heights_under(expression, facts, spoilt), wanted)
        self.assertEqual(len(seen), 4)
        self.assertGreater(min(seen.values()), 9)

    def test_only_the_first_state_is_bounded_at_the_beginning(self):
        facts = Facts(AtMost("a", 1))
        question = -step("a")
        flat = {(u, (t,)): 0 for u in walking.all_columns(BOOK) for t in (0, 1)}
        for key in flat:
            raised = {**flat, key: 1}
            self.same(is_heights_under(question, facts, [raised, flat]), key[1] == (0,))
        whole = -Whole.rising(BOOK, "a")
        self.same(is_heights_under(whole, facts, flat), True)
        self.same(is_heights_under(whole, facts, {key: 1 for key in flat}), False)
        self.same(is_heights_under(whole - Whole.opening(BOOK, "s"), facts, {key: 1 for key in flat}), False)
        below = whole + Whole.rising(BOOK, "b") - Whole.closing(BOOK, "b")
        lower = {(u, t): -u[1] - t[0] for u, t in flat}
        self.same(is_heights_under(below, Facts(AtMost("a", 1), NeverFalls("b")), {(u, t + ()): -u[1] for u, t in flat}), True)
        self.same(is_heights_under(below, Facts(AtMost("a", 1), NeverFalls("b")), lower), False)

    def test_each_height_is_the_least(self):
        facts = Facts(Apart("s", 2), AtMost("a", 1))
        question = Question.rising(BOOK, "s", 2) - 2 * Question.truth(BOOK, "s", 2) - Question.showing(BOOK, "s").late(2)
        found = heights_under(question, facts)
        self.same(len(found), 3)
        for table in found:
            for key in table:
                table[key] -= 1
                self.same(is_heights_under(question, facts, found), False)
                table[key] += 1
        self.same([is_heights_under(question, facts, found), is_heights_under(question, facts, tuple(found))], [True, True])
        whole = Whole.rising(BOOK, "s") - 2 * Whole.rising(BOOK, "a") - 2 * Whole.rising(BOOK, "b") - Whole.opening(BOOK, "s")
        facts = Facts(AtMost("s", 1))
        found = heights_under(whole, facts)
        for key in found:
            found[key] -= 1
            self.same(is_heights_under(whole, facts, found), False)
            found[key] += 1
        self.same(is_heights_under(whole, facts, found), True)

    def test_keys(self):
        facts = Facts(Apart("a", 2), NeverFalls("b"))
        self.same(states(BOOK, facts), [(0,), (1,)])
        keys = [(u, t) for u in walking.all_columns(BOOK) for t in states(BOOK, facts)]
        flat = {key: 0 for key in keys}
        less = {key: 0 for key in keys[1:]}
        wrong = [
            less, {**flat, ((0, 0), (2,)): 0}, {**less, ((0, 0), (2,)): 0}, {**less, ((0, 0), (False,)): 0}, {**less, ((False, 0), (0,)): 0},
            {**less, ((0, 0), ()): 0}, {**less, ((0, 0), (0, 0)): 0}, {**less, ((0, 2), (0,)): 0}, {**less, ((0, 0, 0), (0,)): 0}, {**less, (0, 0): 0},
            {**less, ((0, 0), 0): 0}, {**less, ((0, 0), (0,), 0): 0}, {**less, ((0, 0.0), (0,)): 0}, {**less, None: 0}, {**less, "ab": 0}, {u: 0 for u, _ in keys},
            {**less, ((0, 0), (-1,)): 0}, {**less, ((0, 0), (1.0 - 1,)): 0}, list(flat.items()), [0] * 8, *NO_LISTS, flat.keys(),
        ]
        for number in NO_INTEGERS:
            wrong.append({**less, keys[0]: number})
        question, whole = -step("a"), -Whole.rising(BOOK, "a")
        self.same([is_heights_under(question, facts, [flat, flat]), is_heights_under(whole, facts, flat)], [True, True])
        for value in wrong:
            self.same(is_heights_under(whole, facts, value), False)
            for looks in ([value, flat], [flat, value], (value, value)):
                self.same(is_heights_under(question, facts, looks), False)
        for value in ODD_VALUES + [flat, [flat], [flat] * 3, {0: flat, 1: flat}, [[flat, flat]], (flat, [flat])]:
            self.same(is_heights_under(question, facts, value), False)
        for value in ODD_VALUES + [[flat], (flat,), [flat, flat]]:
            self.same(is_heights_under(whole, facts, value), False)

    def test_keys_of_answers(self):
        facts = Facts(NotBoth("a", "b"), Apart("a", 2), AtMost("s", 1))
        keys = {(u, t) for u in walking.all_columns(BOOK) for t in states(BOOK, facts)}
        for table in heights_under(-Question.rising(BOOK, "s", 2), facts) + [heights_under(-Whole.rising(BOOK, "s"), facts)]:
            self.assertEqual(set(table), keys)
        looks = heights_under(Question.zero(BOOK), facts)
        self.same(len(looks), 1)
        looks[0].clear()
        self.same(len(heights_under(Question.zero(BOOK), facts)[0]), len(keys))
        one = heights_under(-Question.rising(BOOK, "s", 2), facts)
        self.assertEqual(len({id(table) for table in one}), 3)

    def test_long_integers(self):
        far = 10 ** 39
        facts = Facts(AtMost("s", 2))
        question = far * Question.rising(BOOK, "s", 3) - far * Question.truth(BOOK, "s", 3)
        self.same([greatest_under(question, facts), heights_under(question, facts)], [2 * far, None])
        whole = far * FAR - 2 * far * (Whole.opening(BOOK, "s") + Whole.rising(BOOK, "a") + Whole.rising(BOOK, "b"))
        found = heights_under(whole, facts)
        self.same([is_heights_under(whole, facts, found), ruling.are_heights(whole, facts, found)], [True, True])


class Papers(Case):
    def test_walks(self):
        facts = Facts(Apart("a", 2), NotBoth("b", "s"))
        question = step("s")
        stay = (0, 1)
        for looks, letters, wanted in (
            ([(0, 0)], [], True), ([stay] * 2, [()], True), ([stay] * 2, [("a",)], True), ([stay] * 2, [("a", "s")], True), ([stay] * 2, [("b", "s")], False),
            ([stay] * 2, [("s",)], False), ([stay] * 3, [("a",), ()], True), ([stay] * 3, [("a",), ("a", "s")], False),
            ([stay] * 4, [("a",), (), ("a", "s")], True), ([stay, (0, 0)], [("b",)], False), ([stay, (0, 0)], [("b", "s")], False),
            ([stay, (1, 0)], [("b",)], True), ([stay, (1, 1)], [("b",)], True), ([stay, (1, 1)], [("a",)], False), ([stay, (1, 1)], [()], True), ([stay, (1, 1)], [], False),
            ([stay] * 2, [["a"]], False), ([stay] * 2, [("t",)], False), ([[0, 1]] * 2, [()], False), ([stay] * 2, [()] * 2, False),
        ):
            for value in ((looks, letters), (tuple(looks), tuple(letters))):
                self.assertEqual(is_walk_under(question, facts, value), wanted, value)
                self.same(is_walk_under(value=value, facts=facts, question=question), wanted)
        for value in ODD_VALUES:
            self.same(is_walk_under(question, facts, value), False)
        long = ([stay] * 201, [("a",), ()] * 100)
        self.same([is_walk_under(question, facts, long), is_walk_under(question, facts, (long[0], long[1][:-1] + [("b", "s")]))], [True, False])

    def test_walks_have_letters_of_all_names(self):
        question = step("a")
        self.same([is_walk(question, ([(0, 1)] * 2, [("b",)])), is_walk_under(question, Facts(NeverFalls("s")), ([(0, 1)] * 2, [("b",)]))], [False, False])
        facts = Facts(NotBoth("b", "a"))
        for letter, wanted in ((("b",), True), (("a",), True), (("a", "b"), False), ((), True)):
            self.same(is_walk_under(question, facts, ([(0, 1)] * 2, [letter])), wanted)
        self.same(is_walk_under(question, facts, ([(0, 1), (0, 0)], [()])), False)
        self.same(is_walk_under(question, facts, ([(0, 1), (0, 0)], [("b",)])), True)

    def test_random_walks_and_journeys(self):
        numbers = random.Random(10)
        seen = {True: 0, False: 0}
        for expression, facts in examples(numbers, walking.SMALL_BOOKS, 40):
            book, names = expression.book, ruling.names_of([expression], facts)
            column = numbers.choice(walking.all_columns(book))
            moves, _ = ruling.random_moves(numbers, book, names, facts, (column, ruling.first(facts)), 5)
            for spoil in range(4):
                at = numbers.randrange(5)
                spoilt = [numbers.choice(walking.moves(book, names))[1:] if spoil and k == at else move for k, move in enumerate(moves)]
                wanted = follows(expression, facts, column, spoilt) is not None
                seen[wanted] += 1
                walk = ([column] + [goal for _, goal in spoilt], [letter for letter, _ in spoilt])
                self.same(is_walk_under(Question.zero(book) if isinstance(expression, Whole) else expression, facts, walk), self.agrees(expression, facts, walk, wanted))
                if isinstance(expression, Whole):
                    for blocks in ([(spoilt, 1)], [([move], 1) for move in spoilt], [(tuple(spoilt[:2]), 1), (spoilt[2:], 1)]):
                        self.same(is_journey_under(expression, facts, (column, blocks)), wanted)
        self.assertGreater(min(seen.values()), 50)

    def agrees(self, expression, facts, walk, wanted):
        """What is to be expected of a walk: of a whole, the names of the facts alone are asked."""
        if isinstance(expression, Question):
            return wanted
        zero = Question.zero(expression.book)
        return follows(zero, facts, walk[0][0], list(zip(walk[1], walk[0][1:]))) is not None

    def test_journeys(self):
        facts = Facts(Apart("s", 2), AtMost("a", 3))
        fall, stay, up = (("b", "s"), (0, 1)), ((), (0, 1)), (("a",), (0, 1))
        for blocks, wanted in (
            ([], True), ([([fall], 1)], True), ([([fall], 2)], False), ([([fall, stay], 1)], True), ([([fall, stay], 10 ** 30)], True),
            ([([fall, stay], 1), ([fall], 1)], True), ([([stay, fall], 2)], False), ([([stay, fall], 1), ([fall], 1)], False),
            ([([stay, fall], 1), ([stay, fall], 10 ** 9)], True),
            ([([stay, fall, stay], 1), ([stay, fall], 2)], False), ([([fall, stay], 1), ([fall, stay], 3)], True),
            ([([up], 1), ([up], 1), ([up], 1)], True), ([([up, up, up], 1)], True), ([([up], 3)], False), ([([up] * 4, 1)], False),
            ([([up, up, up], 1), ([stay], 10 ** 30), ([fall, stay], 7)], True), ([([fall], 1), ([stay], 1)], True), ([([fall], 1), ([stay], 2)], False),
            ([([fall, stay, stay], 2)], True), ([([fall, stay, stay], 2), ([stay], 5), ([fall], 1)], True),
        ):
            for value in (((0, 1), blocks), ((0, 1), tuple((tuple(moves), times) for moves, times in blocks))):
                self.assertEqual(is_journey_under(FAR, facts, value), wanted, value)
                self.same(is_journey_under(value=value, facts=facts, whole=FAR), wanted)

    def test_one_thing_of_a_journey_otherwise(self):
        facts = Facts(Apart("s", 2))
        fall, stay = (("b", "s"), (0, 1)), ((), (0, 1))
        self.same(is_journey_under(FAR, facts, ((0, 1), [([fall, stay], 2)])), True)
        for wrong in (
            [(0, 1), [([fall, stay], 2)]], ((0, 1), [([fall, stay], True)]), ((0, 1), [([fall, stay], 0)]), ((0, 1), [([fall, stay], 2.0)]),
            ((0, 1), [([fall, stay],)]), ((0, 1), [[[fall, stay], 2]]), ((0, 1), [([list(fall), stay], 2)]), ((0, 1), [([], 2)]),
            ((0, 1), [([(("b", "s"), [0, 1]), stay], 2)]), ((0, 1), [([(["b", "s"], (0, 1)), stay], 2)]), ((0, 1), [([fall + (0,), stay], 2)]),
            ((0, 1), [([(("s",), (0, 1)), stay], 2)]), ((0, 1), [([fall, ((), (False, 1))], 2)]), ((0, 2), [([fall, stay], 2)]), ((0, 1), {}),
            ((0, 1), None), ((0, 1), [([fall, ((), (1, 1))], 2)]), ((1, 1), [([fall, stay], 2)]), (None, []), ((0, True), []),
        ):
            self.same([is_journey_under(FAR, facts, wrong), is_breaking_under(FAR, facts, wrong)], [False, False])
        for value in ODD_VALUES:
            self.same([is_journey_under(FAR, facts, value), is_breaking_under(FAR, facts, value)], [False, False])

    def test_rows_that_break_a_question_but_not_the_facts(self):
        self.same([is_breaking_under(EXCESS, NONE, ROW), is_breaking_under(EXCESS, NEVER, ROW)], [True, False])
        late = EXCESS.late(1)
        twice = Row(BOOK, [[9, 5], [1, 6], [1, 6]])
        for facts, row, question, wanted in (
            (NONE, twice, late, True), (NONE, ROW, late, False), (Facts(AtMost("s", 1)), twice, late, True), (Facts(AtMost("s", 0)), twice, late, False),
            (Facts(AtMost("s", 1)), Row(BOOK, [[9, 9], [1, 9], [9, 5], [1, 6]]), EXCESS, False),
            (Facts(AtMost("s", 2)), Row(BOOK, [[9, 9], [1, 9], [9, 5], [1, 6]]), EXCESS, True),
            (Facts(Apart("s", 3)), Row(BOOK, [[9, 9], [1, 9], [9, 5], [1, 6]]), EXCESS, False),
            (Facts(Apart("s", 2)), Row(BOOK, [[9, 9], [1, 9], [9, 5], [1, 6]]), EXCESS, True), (NONE, Row(BOOK, [[1, 6], [9, 9]]), EXCESS, False),
            (NONE, Row(walking.PLAIN, [[9, 5], [1, 6]]), EXCESS, False), (Facts(AtMost("s", 9)), Row(walking.ONE, [[9], [1]]), EXCESS, False),
        ):
            self.same(is_breaking_under(question, facts, row), wanted)
        for value in ODD_VALUES[:-2] + [[[9, 5], [1, 6]], ([(0, 1)] * 2, [("a", "s")]), ((0, 1), [([(("a", "s"), (0, 1))], 1)])]:
            self.same(is_breaking_under(EXCESS, NONE, value), False)

    def test_journeys_that_break_a_whole_but_not_the_facts(self):
        fall, stay = (("b", "s"), (0, 1)), ((), (0, 1))
        turn = [(("a", "s"), (0, 1))]
        for facts, blocks, wanted in (
            (NONE, [(turn, 1)], True), (NONE, [(turn, 10 ** 30)], True), (NONE, [], False), (NONE, [([fall], 1)], False), (NEVER, [(turn, 1)], False),
            (Facts(AtMost("s", 1)), [(turn, 1)], True), (Facts(AtMost("s", 1)), [(turn, 2)], False), (Facts(Apart("s", 2)), [(turn + [stay], 5)], True),
            (Facts(Apart("s", 2)), [(turn + turn, 1)], False), (Facts(OnlyWith("s", "b")), [(turn, 1)], False),
        ):
            self.same(is_breaking_under(FAR, facts, ((0, 1), blocks)), wanted)
        self.same(is_breaking_under(FAR - Whole.opening(BOOK, "b"), NONE, ((0, 1), [(turn, 1)])), False)
        self.same(is_breaking_under(FAR - Whole.opening(BOOK, "b"), NONE, ((0, 1), [(turn, 2)])), True)
        self.same(is_breaking_under(FAR, NONE, ROW), False)

    def test_blocks_may_end_in_another_state(self):
        """A journey that goes above zero only where falls are counted down."""
        facts = Facts(AtMost("s", 4))
        whole = Whole.rising(BOOK, "s") - 3 * Whole.opening(BOOK, "s") - 4 * Whole.rising(BOOK, "a") - 4 * Whole.rising(BOOK, "b")
        journey = breaking_under(whole, facts)
        self.same(is_breaking_under(whole, facts, journey), True)
        self.assertEqual({times for _, times in journey[1]}, {1})
        self.same([breaking_under(whole, Facts(AtMost("s", 3))), is_breaking_under(whole, Facts(AtMost("s", 3)), journey)], [None, False])

    def test_rings_behind_a_loss(self):
        far = 10 ** 25
        facts = Facts(Apart("s", 3), AtMost("a", 2))
        whole = FAR + Whole.rising(BOOK, "a") - far * Whole.opening(BOOK, "s") - far * Whole.closing(BOOK, "s")
        journey = breaking_under(whole, facts)
        self.same(is_breaking_under(whole, facts, journey), True)
        self.assertGreater(journey_value(whole, journey), 0)

    def test_rows_have_the_letters_of_walks_under_facts(self):
        facts = Facts(Apart("s", 2), NotBoth("a", "b"))
        question = Question.rising(BOOK, "s", 4) - Question.truth(BOOK, "s", 4)
        row = breaking_under(question, facts)
        letters = [letter_of(row, BOOK.names(), gap) for gap in range(1, 5)]
        self.same([row.gaps, facts.keeps(row), question(row) > 0, row.book == BOOK], [4, True, True, True])
        self.same(is_walk_under(question, facts, ([(0, 0)] * 5, letters)), True)


class Refused(Case):
    def calls(self, expression, facts):
        """All functions with an expression and facts."""
        zero = 0 * expression
        found = [(is_below, expression, zero, facts), (heights_under, expression, facts), (is_heights_under, expression, facts, None)]
        found += [(breaking_under, expression, facts), (is_breaking_under, expression, facts, None)]
        if isinstance(expression, Question):
            return found + [(greatest_under, expression, facts), (is_walk_under, expression, facts, None)]
        return found + [(is_journey_under, expression, facts, None)]

    def test_kinds(self):
        question, whole = step("a"), Whole.rising(BOOK, "a")
        bad = Facts(AtMost("c", 100))
        far = Whole.rising(walking.PLAIN, "a")
        for one, other in ((question, whole), (whole, question), (question, far)):
            self.refuses(InvalidQuestion, {"value": other}, is_below, one, other, bad)
        self.refuses(InvalidQuestion, {"value": whole}, greatest_under, whole, bad)
        self.refuses(InvalidQuestion, {"value": whole}, greatest_under, facts=NONE, question=whole)

    def test_other_books(self):
        bad = Facts(AtMost("c", 100))
        self.refuses(OtherBook, {}, is_below, step("a"), step("a", 0, walking.PLAIN), bad)
        self.refuses(OtherBook, {}, is_below, Whole.rising(BOOK, "a"), Whole.rising(walking.PLAIN, "a"), bad)

    def test_unknown_names(self):
        facts = Facts(AtMost("zz", 100), NeverFalls("yy"))
        for expression in (step("a"), Whole.rising(BOOK, "a"), sum_of(LARGE.names()), sum_of(LARGE.names(), Whole)):
            for call in self.calls(expression, facts):
                self.refuses(UnknownName, {"value": "yy"}, *call)

    def test_six_and_seven_names(self):
        names = LARGE.names()
        wanted = {"what": "names", "limit": 6}
        for kind in (Question, Whole):
            for asked, facts in (
                (names[:6], Facts(NeverFalls(names[6]))), (names[:7], Facts()), (names, Facts()), (names[:3], Facts(*[NeverFalls(n) for n in names[5:]])),
                ([], Facts(*[NeverFalls(n) for n in names[:7]])), (names[:6], Facts(AtMost("z", 100))), (names[:7], Facts(AtMost("a", 100))),
            ):
                for call in self.calls(sum_of(asked, kind), facts):
                    self.refuses(TooMany, wanted, *call)
            for asked, facts in (
                (names[:6], Facts(NeverFalls(names[5]))), (names[:4], Facts(OnlyWith(names[4], names[8]))), ([], Facts(*[NeverFalls(n) for n in names[:6]])),
            ):
                for call in self.calls(sum_of(asked, kind), facts):
                    self.assertIsNot(call[0](*call[1:]), ANY)

    def test_names_that_cancel(self):
        names = LARGE.names()
        self.same(is_below(sum_of(names), sum_of(names), Facts(NeverFalls("a"))), True)
        self.same(is_below(sum_of(names, Whole), sum_of(names[1:], Whole), Facts(NeverFalls("b"))), False)

    def test_sixty_states_and_more(self):
        wanted = {"what": "states", "limit": 60}
        for expression in (-step("a"), -Whole.rising(BOOK, "s")):
            for facts in (Facts(AtMost("a", 60)), Facts(Apart("b", 61)), Facts(AtMost("s", 10 ** 39))):
                for call in self.calls(expression, facts):
                    self.refuses(TooMany, wanted, *call)
            facts = Facts(AtMost("a", 19), Apart("b", 3))
            found = heights_under(expression, facts)
            tables = found if isinstance(found, list) else [found]
            self.same([len(table) for table in tables], [240] * len(tables))
            self.same([is_below(expression, 0 * expression, facts), is_heights_under(expression, facts, found)], [True, True])
            self.same([breaking_under(expression, facts), is_breaking_under(-expression, facts, breaking_under(-expression, facts))], [None, True])

    def test_long_questions_with_many_states(self):
        question = Question.rising(BOOK, "s", 100) - Question.truth(BOOK, "s", 100)
        facts = Facts(AtMost("s", 59))
        self.same([greatest_under(question, facts), breaking_under(question, facts).gaps], [59, 100])
        self.same(is_breaking_under(question, facts, breaking_under(question, facts)), True)


class Wrong(Case):
    def test_whole_rows_of_one_look(self):
        journey = breaking_under(Whole.opening(BOOK, "a"), NEVER)
        self.same([is_journey(Whole.opening(BOOK, "a"), journey), is_breaking_under(Whole.opening(BOOK, "a"), NEVER, journey)], [True, True])
        self.same(is_below(-Whole.opening(BOOK, "a"), Whole.zero(BOOK), NEVER), True)
        self.same([is_below(Question.zero(BOOK), Question.zero(BOOK), NEVER), breaking_under(Question.zero(BOOK), NEVER)], [True, None])


if __name__ == "__main__":
    unittest.main()
