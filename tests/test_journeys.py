import copy
import random
import unittest
from unittest.mock import ANY

from surerise.columns import columns
from surerise.errors import InvalidWalk, TooMany
from surerise.journeys import breaking_journey, is_journey, is_whole_heights, journey_gaps, journey_value, row_along
from surerise.journeys import whole_heights
from surerise.letters import letter_of
from surerise.wholes import Whole
from tests import walking
from tests.support import NO_INTEGERS, NO_LISTS, Case

BOOK = walking.BOOK
LARGE = walking.LARGE
FAR = Whole.rising(BOOK, "s") - Whole.rising(BOOK, "a") - Whole.rising(BOOK, "b")
NET, RISE = Whole.net(BOOK, "a"), Whole.rising(BOOK, "a")
TURN = [(("a", "s"), (0, 1))]
ODD_VALUES = NO_LISTS + [[], (), [(0, 0), []], ((0, 0),), ((0, 0), [], []), (ANY, ANY), ("ab", []), 1.5, (None, []), ((0, 0), None)]


def told(journey):
    """All moves of a short journey, one by one."""
    column, blocks = journey
    return column, [move for moves, times in blocks for move in list(moves) * times]


def value_of(whole, journey):
    """The value at a short journey, from the definition."""
    book = whole.book
    first, moves = told(journey)
    column = first
    total = sum(w * walking.reading(book, n, first) for n, w in whole.firsts().items())
    for letter, goal in moves:
        total += sum(w * walking.step(book, n, column, letter, goal) for n, w in whole.rises().items())
        column = goal
    return total + sum(w * walking.reading(book, n, column) for n, w in whole.lasts().items())


def random_journey(numbers, whole, gaps):
    looks, letters = walking.random_walk(numbers, whole.book, whole.asked(), gaps)
    return (looks[0], [([move], 1) for move in zip(letters, looks[1:])])


def sum_of(names):
    found = Whole.zero(LARGE)
    for name in names:
        found = found + Whole.rising(LARGE, name)
    return found


class Journeys(Case):
    def test_example(self):
        ring = ((0, 1), [(TURN, 10 ** 30)])
        self.same(journey_gaps(FAR, ring), 10 ** 30)
        self.same(journey_value(FAR, ring), 10 ** 30)
        self.same(FAR(row_along(FAR, ((0, 1), [(TURN, 2)]))) > 0, True)

    def test_journeys(self):
        for journey, gaps, value in (
            (((0, 1), []), 0, 0), (((1, 1), ()), 0, 0), (((0, 1), [(TURN, 1)]), 1, 1), (((0, 1), ((tuple(TURN), 3),)), 3, 3),
            (((0, 0), [([((), (0, 1))], 1), (TURN, 5)]), 6, 5), (((1, 0), [([(("a",), (0, 1)), (("b", "s"), (1, 0))], 4)]), 8, -4),
            (((1, 0), [([(("a",), (0, 1))], 1)]), 1, -1), (((1, 1), [([(("a", "b", "s"), (0, 0))], 1)]), 1, 0),
        ):
            self.same([is_journey(FAR, journey), journey_gaps(FAR, journey)], [True, gaps])
            self.same([is_journey(value=journey, whole=FAR), journey_gaps(journey=journey, whole=FAR)], [True, gaps])
            self.same(journey_value(FAR, journey), value)
            self.same(journey_value(journey=journey, whole=FAR), value)

    def test_first_and_last_weights(self):
        whole = 3 * Whole.opening(BOOK, "s") - 5 * Whole.closing(BOOK, "a") + 10 * RISE
        for journey, value in (
            (((0, 1), []), 3), (((1, 1), []), 1), (((0, 1), [([((), (1, 1))], 1)]), 8), (((1, 0), [([(("a",), (1, 0))], 2)]), 18),
        ):
            self.same(journey_value(whole, journey), value)
        self.same(is_journey(Whole.net(BOOK, "s"), ((0, 1), [([((), (1, 0))], 1)])), True)
        self.same(is_journey(Whole.net(BOOK, "s"), ((0, 1), [([(("a",), (1, 0))], 1)])), False)

    def test_blocks_that_are_done_more_than_once(self):
        there, back = ((), (1, 1)), (("a", "s"), (0, 1))
        for blocks, wanted in (
            ([([there], 1)], True), ([([there], 2)], False), ([([there, back], 2)], True), ([([there], 1), ([back], 1)], True),
            ([([there], 1), ([back], 2)], False), ([([there, back], 10 ** 30), ([there], 1)], True),
            ([([there, back], 10 ** 30), ([there], 2)], False), ([(TURN * 3, 10 ** 30), (TURN, 10 ** 30)], True),
        ):
            self.same(is_journey(FAR, ((0, 1), blocks)), wanted)
        far = ((0, 1), [(TURN * 3, 10 ** 30), ([there, back], 10 ** 29)])
        self.same([journey_gaps(FAR, far), journey_value(FAR, far)], [32 * 10 ** 29, 31 * 10 ** 29])

    def test_the_same_journey_told_otherwise(self):
        numbers = random.Random(4)
        for book in walking.SMALL_BOOKS:
            for _ in range(40):
                whole = walking.random_whole(numbers, book)
                journey = random_journey(numbers, whole, numbers.randint(0, 8))
                column, moves = told(journey)
                cut = numbers.randint(0, len(moves))
                blocks = [(part, 1) for part in (moves[:cut], tuple(moves[cut:])) if part]
                still = [move for move in walking.moves(book, whole.asked()) if move[0] == move[2] == column]
                turn = [(numbers.choice(still)[1], column)]
                more = [(turn, 3)] + blocks
                again = [(turn * 2, 1), (tuple(turn), 1)] + journey[1]
                self.same(journey_value(whole, journey), value_of(whole, journey))
                self.same(journey_value(whole, (column, blocks)), value_of(whole, journey))
                self.same(journey_gaps(whole, (column, blocks)), journey_gaps(whole, journey))
                self.same(journey_value(whole, (column, more)), journey_value(whole, (column, again)))
                self.same(journey_value(whole, (column, tuple(more))), value_of(whole, (column, more)))

    def test_one_thing_otherwise(self):
        letter, goal = ("a", "s"), (0, 1)
        self.same(is_journey(FAR, ((0, 1), [([(letter, goal)], 2)])), True)
        for wrong in (
            [(0, 1), [(TURN, 2)]], ((0, 1), [(TURN, 2)], []), ((0, 1), (TURN, 2)), ((0, 1), [[TURN, 2]]), ((0, 1), [(TURN, 2, 1)]),
            ((0, 1), [(TURN,)]), ((0, 1), [([], 2)]), ((0, 1), [((), 1)]), ((0, 1), [(TURN, 0)]), ((0, 1), [(TURN, -1)]),
            ((0, 1), [(TURN, True)]), ((0, 1), [(TURN, 1.0)]), ((0, 1), [(TURN, "2")]), ((0, 1), [(TURN, None)]), ((0, 1), [(TURN, ANY)]),
            ([0, 1], [(TURN, 2)]), ((0, 2), [(TURN, 2)]), ((False, 1), [(TURN, 2)]), ((0, 1, 0), [(TURN, 2)]), ((0,), [(TURN, 2)]),
            ((1, 0), [(TURN, 2)]), ((0, 1), [([[letter, goal]], 2)]), ((0, 1), [([(letter, goal, 1)], 2)]), ((0, 1), [([(letter,)], 2)]),
            ((0, 1), [([(list(letter), goal)], 2)]), ((0, 1), [([(letter, list(goal))], 2)]), ((0, 1), [([(letter, (0, True))], 2)]),
            ((0, 1), [([(letter, (0, 1, 0))], 2)]), ((0, 1), [([(("s",), goal)], 2)]), ((0, 1), [([(("s", "a"), goal)], 2)]),
            ((0, 1), [([(("a", "t"), goal)], 2)]), ((0, 1), [([(letter, (1, 1))], 1)]), ((0, 1), [([(letter, None)], 1)]),
            ((0, 1), [(TURN, 2), (TURN, 0)]), ((0, 1), [(TURN, 2), None]), ((0, 1), {0: (TURN, 2)}), ((0, 1), [({0: TURN[0]}, 1)]),
            ((0, 1), [([((ANY,), goal)], 1)]), ((0, 1), [("ab", 1)]), ((0, 1), ["ab"]), ((0, 1), [({TURN[0]: 1}, 1)]),
            ((0, 1), {}), ((0, 1), ""), ((0, 1), [(None, 1)]), ((0, 1), [(0, 1)]),
        ):
            self.refused(FAR, wrong)

    def refused(self, whole, wrong):
        self.same(is_journey(whole, wrong), False)
        for call in (journey_gaps, journey_value, row_along):
            self.refuses(InvalidWalk, {"value": wrong}, call, whole, wrong)

    def test_values_of_any_kind(self):
        for whole in (FAR, Whole.zero(BOOK), sum_of(["a", "all"])):
            for value in ODD_VALUES:
                self.refused(whole, value)


class Heights(Case):
    def right(self, whole, value):
        """Whether heights have the properties of [53], looked up one by one."""
        book = whole.book
        for u in value:
            last = sum(w * walking.reading(book, n, u) for n, w in whole.lasts().items())
            first = sum(w * walking.reading(book, n, u) for n, w in whole.firsts().items())
            if value[u] < last or first + value[u] > 0:
                return False
        for u, letter, v in walking.moves(book, whole.asked()):
            worth = sum(w * walking.step(book, n, u, letter, v) for n, w in whole.rises().items())
            if value[u] < worth + value[v]:
                return False
        return True

    def test_example(self):
        self.same(breaking_journey(NET - RISE), None)
        self.same(is_whole_heights(NET - RISE, {(0, 0): 0, (0, 1): 0, (1, 0): 1, (1, 1): 1}), True)

    def wholes(self, numbers, most):
        """Wholes of which some are never above zero, some go up in rings, and some only at their ends."""
        for book in walking.SMALL_BOOKS + [walking.PAIRS]:
            for number in range(most):
                whole = walking.random_whole(numbers, book, 1)
                for counter in book.counters():
                    if number % 3:
                        whole = whole - numbers.randint(0, 2) * Whole.rising(book, counter)
                    if number % 2:
                        whole = whole - Whole.opening(book, counter)
                if len(whole.asked()) <= 6:
                    yield whole

    def test_heights_or_a_journey_never_both(self):
        numbers = random.Random(9)
        seen = {"heights": 0, "ring": 0, "ends": 0}
        for whole in self.wholes(numbers, 90):
            found, journey = whole_heights(whole=whole), breaking_journey(whole=whole)
            self.same([found is None, journey is None], [journey is not None, found is not None])
            self.same(whole <= Whole.zero(whole.book), journey is None)
            if journey is None:
                seen["heights"] += 1
                self.assertTrue(self.right(whole, found))
                self.same(is_whole_heights(value=found, whole=whole), True)
                for _ in range(5):
                    self.assertLessEqual(whole(walking.random_row(numbers, whole.book, 5)), 0)
                    self.assertLessEqual(value_of(whole, random_journey(numbers, whole, 6)), 0)
            else:
                seen["ring" if any(times > 1 for _, times in journey[1]) else "ends"] += 1
                self.same(is_journey(whole, journey), True)
                self.assertGreater(value_of(whole, journey), 0)
                self.same(journey_value(whole, journey), value_of(whole, journey))
        self.assertGreater(min(seen.values()), 20)

    def test_right_and_spoilt(self):
        numbers = random.Random(10)
        seen = {True: 0, False: 0}
        for whole in self.wholes(numbers, 90):
            found = whole_heights(whole)
            for _ in range(6 if found else 0):
                spoilt = copy.deepcopy(found)
                for _ in range(numbers.randint(1, 3)):
                    spoilt[numbers.choice(list(spoilt))] += numbers.choice([-1, 1, 2])
                wanted = self.right(whole, spoilt)
                seen[wanted] += 1
                self.same(is_whole_heights(whole, spoilt), wanted)
        self.assertGreater(min(seen.values()), 20)

    def test_each_property(self):
        flat = {column: 0 for column in columns(BOOK)}
        high = {column: column[0] for column in columns(BOOK)}
        for whole, value, wanted in (
            (Whole.zero(BOOK), flat, True), (-RISE, flat, True), (RISE, flat, False), (RISE, high, False),
            (Whole.closing(BOOK, "a"), flat, False), (Whole.closing(BOOK, "a"), high, False), (NET, high, False), (NET - RISE, high, True),
            (-Whole.closing(BOOK, "a"), flat, True), (Whole.opening(BOOK, "a"), flat, False), (-Whole.opening(BOOK, "a"), flat, True),
            (-Whole.opening(BOOK, "a"), high, False), (Whole.opening(BOOK, "a") - RISE, {**flat, (1, 0): -1, (1, 1): -1}, False),
        ):
            self.same(is_whole_heights(whole, value), wanted)
            self.same(self.right(whole, value), wanted)

    def test_wrong_forms(self):
        flat = {column: 0 for column in columns(BOOK)}
        less = {column: 0 for column in columns(BOOK)[1:]}
        self.same(is_whole_heights(-RISE, flat), True)
        for value in ODD_VALUES + [
            less, {**flat, (1, 2): 0}, {**less, (0, 0, 0): 0}, {**less, (False, 0): 0}, {**less, (0, 0.0): 0}, {**less, "00": 0},
            {**less, None: 0}, [flat], list(flat.items()), [0] * 4,
        ]:
            self.same(is_whole_heights(-RISE, value), False)
        for wrong in NO_INTEGERS:
            self.same(is_whole_heights(-RISE, {**less, (0, 0): wrong}), False)

    def test_large_books(self):
        names = LARGE.names()[:6]
        below = -sum_of(names) - Whole.opening(LARGE, "all")
        found = whole_heights(below)
        self.same([is_whole_heights(below, found), breaking_journey(below), below <= Whole.zero(LARGE)], [True, None, True])
        for whole in (sum_of(names), sum_of(["all", "x", "y"]) - sum_of(["a", "b", "c"])):
            journey = breaking_journey(whole)
            self.same([whole_heights(whole), journey_value(whole, journey) > 0], [None, True])
        net = Whole.net(LARGE, "all")
        self.same(whole_heights(net - sum_of(["all"])) is None, False)
        self.same(whole_heights(net - sum_of(list("abcde"))) is None, False)

    def test_weights_that_only_many_turns_outweigh(self):
        heavy = FAR - 10 ** 30 * Whole.opening(BOOK, "s") - 10 ** 31 * Whole.closing(BOOK, "s")
        journey = breaking_journey(heavy)
        self.assertGreater(journey_value(heavy, journey), 0)
        self.assertGreater(journey_gaps(heavy, journey), 10 ** 30)
        self.same(heavy <= Whole.zero(BOOK), False)

    def test_rings_that_are_reached_at_a_loss(self):
        """The few moves that the heights count do not show that the value is ever greater than 0."""
        far = 10 ** 6
        whole = Whole.rising(BOOK, "s") - far * Whole.rising(BOOK, "a") - far * Whole.rising(BOOK, "b")
        whole = whole - far * Whole.opening(BOOK, "s")
        for less in (Whole.closing(BOOK, "s"), Whole.closing(BOOK, "a"), Whole.opening(BOOK, "b"), Whole.zero(BOOK)):
            for times in (1, far, far ** 4):
                heavy = whole - times * less
                self.assertFalse(any(value_of(heavy, (u, [([(("a", "s"), u)], 5)])) > 0 for u in columns(BOOK)))
                journey = breaking_journey(heavy)
                self.assertGreater(journey_value(heavy, journey), 0)
                self.same([heavy <= Whole.zero(BOOK), whole_heights(heavy)], [False, None])

    def test_answers_are_new(self):
        whole_heights(NET - RISE).clear()
        self.same(len(whole_heights(NET - RISE)), 4)
        journey = breaking_journey(FAR)
        for moves, _ in journey[1]:
            moves.clear()
        journey[1].clear()
        self.assertGreater(journey_value(FAR, breaking_journey(FAR)), 0)


class Rows(Case):
    def has_journey(self, whole, journey):
        row = row_along(whole, journey)
        _, moves = told(journey)
        self.same(row.gaps, len(moves))
        self.same([letter_of(row, whole.asked(), gap + 1) for gap in range(len(moves))], [letter for letter, _ in moves])
        self.assertEqual(row.book, whole.book)
        self.assertGreater(whole(row), 0)

    def test_rows(self):
        numbers = random.Random(14)
        seen = 0
        for book in walking.SMALL_BOOKS + [walking.PAIRS]:
            for _ in range(60):
                whole = walking.random_whole(numbers, book)
                journey = random_journey(numbers, whole, numbers.choice([0, 1, 3, 10]))
                if value_of(whole, journey) > 0:
                    seen += 1
                    self.has_journey(whole, journey)
                else:
                    self.refuses(InvalidWalk, {"value": journey}, row_along, whole, journey)
        self.assertGreater(seen, 60)

    def test_rows_of_blocks(self):
        there, back = ((), (1, 1)), (("a", "s"), (0, 1))
        self.has_journey(FAR, ((0, 1), [(TURN, 2), ([there, back], 3), (tuple(TURN), 1)]))
        self.has_journey(Whole.opening(BOOK, "b"), ((0, 1), ()))
        self.has_journey(sum_of(LARGE.names()[:6]), ((0,) * 5, [([((), (1,) * 5)], 1)]))

    def test_sixty_gaps_and_more(self):
        self.has_journey(FAR, ((0, 1), [(TURN, 60)]))
        self.has_journey(FAR, ((0, 1), [(TURN * 20, 3)]))
        for blocks in ([(TURN, 61)], [(TURN * 61, 1)], [(TURN, 60), (TURN, 1)], [(TURN, 10 ** 30)]):
            self.refuses(TooMany, {"what": "gaps", "limit": 60}, row_along, FAR, ((0, 1), blocks))

    def test_values_that_are_not_greater_than_zero(self):
        for whole, journey in (
            (FAR, ((0, 1), [])), (-FAR, ((0, 1), [(TURN, 1)])), (-FAR, ((0, 1), [(TURN, 10 ** 30)])), (FAR, ((1, 0), [([(("a",), (0, 1))], 1)])),
        ):
            self.same(is_journey(whole, journey), True)
            self.refuses(InvalidWalk, {"value": journey}, row_along, whole, journey)
        self.same(row_along(journey=((0, 1), [(TURN, 1)]), whole=FAR).gaps, 1)


class Refused(Case):
    def test_too_many_names(self):
        wanted = {"what": "names", "limit": 6}
        stay = ((0,) * 5, [([((), (0,) * 5)], 1)])
        for whole in (sum_of(LARGE.names()[:7]), sum_of(LARGE.names())):
            for call in (whole_heights, breaking_journey):
                self.refuses(TooMany, wanted, call, whole)
            for value in (None, ANY, stay):
                self.refuses(TooMany, wanted, is_whole_heights, whole, value)
                self.refuses(TooMany, wanted, row_along, whole, value)
            self.same([is_journey(whole, stay), journey_gaps(whole, stay), journey_value(whole, stay)], [True, 1, 0])


if __name__ == "__main__":
    unittest.main()
