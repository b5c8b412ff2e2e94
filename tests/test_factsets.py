import itertools
import random
import unittest
from unittest.mock import ANY

from surerise.books import Book
from surerise.errors import InvalidFact, InvalidLetter, InvalidState, TooMany, UnknownName
from surerise.facts import Apart, AtMost, Fact, NeverFalls, NotBoth, OnlyWith
from surerise.factsets import Facts, first_state, is_allowed, next_state, states
from surerise.letters import strict_row
from surerise.rows import Row
from tests import ruling, walking
from tests.support import NO_COUNTS, NO_NAMES, Case

BOOK = walking.BOOK
LARGE = walking.LARGE
A, B, C = NeverFalls("a"), OnlyWith("b", "a"), Apart("s", 2)
NO_FACTS = [None, True, 0, 1, "a never", "", b"", [A], (A,), [], (), {}, {A.names()[0]: A}, object(), BOOK, ANY, Fact, NeverFalls]
NO_STATES = [None, True, 0, "", "ab", [0, 0], [], {}, (0,), (0, 0, 0), ((0, 0),), (0, None), (0, True), (False, 0), (0, 1.0), (-1, 0), (0, -1), ANY, ("0", "0")]


def texts(facts):
    return [str(fact) for fact in facts.listed()]


class Together(Case):
    def test_facts_in_the_sequence_in_which_they_were_first_given(self):
        for given, wanted in (
            ([], []), ([A], ["a never"]), ([A, B, C], ["a never", "b only with a", "s apart 2"]),
            ([C, A, B], ["s apart 2", "a never", "b only with a"]), ([A, A, A], ["a never"]),
            ([B, A, OnlyWith("b", "a"), C, NeverFalls("a"), Apart("s", 3)], ["b only with a", "a never", "s apart 2", "s apart 3"]),
            ([OnlyWith("a", "b"), OnlyWith("b", "a"), NotBoth("a", "b"), NotBoth("b", "a")],
             ["a only with b", "b only with a", "a not with b", "b not with a"]),
        ):
            facts = Facts(*given)
            self.same([texts(facts), len(facts)], [wanted, len(wanted)])

    def test_names(self):
        self.same(Facts().names(), [])
        self.same(Facts(C, B, A).names(), ["a", "b", "s"])
        self.same(Facts(NotBoth("z", "b9"), AtMost("b", 3), Apart("b", 3), NeverFalls("b9")).names(), ["b", "b9", "z"])

    def test_in(self):
        facts = Facts(A, C)
        for fact, wanted in ((A, True), (NeverFalls("a"), True), (Apart("s", 2), True), (B, False), (NeverFalls("s"), False), (Apart("s", 3), False)):
            self.same([fact in facts, fact in Facts()], [wanted, False])
        for value in NO_FACTS + [facts, "s apart 2"]:
            self.same([value in facts, value in Facts()], [False, False])

    def test_equal(self):
        groups = [[], [A], [B], [A, B], [A, C], [A, B, C], [NeverFalls("b"), C], [Apart("s", 3)], [AtMost("s", 2)]]
        for (k, one), (m, other) in itertools.product(enumerate(groups), repeat=2):
            for some in itertools.permutations(one):
                self.same([Facts(*some) == Facts(*other), Facts(*some) != Facts(*other)], [k == m, k != m])
        self.same(Facts(A, B, A) == Facts(B, B, A), True)
        for value in [value for value in NO_FACTS if value is not ANY] + [A, C]:
            for facts in (Facts(), Facts(A), Facts(C)):
                self.same([facts == value, value == facts, facts != value], [False, False, True])

    def test_some_of_others(self):
        groups = [[], [A], [B], [C], [A, B], [C, A], [A, B, C], [Apart("s", 3), A]]
        for one, other in itertools.product(groups, repeat=2):
            wanted = all(any(x == y for y in other) for x in one)
            self.same(Facts(*one) <= Facts(*reversed(other)), wanted)

    def test_and(self):
        self.same(texts(Facts(C, A) & Facts(B, A)), ["s apart 2", "a never", "b only with a"])
        self.same(texts(Facts(B, A) & Facts(C, A)), ["b only with a", "a never", "s apart 2"])
        self.same([texts(Facts(C) & A), texts(Facts(A) & A), texts(Facts() & B)], [["s apart 2", "a never"], ["a never"], ["b only with a"]])
        self.same([texts(Facts() & Facts()), texts(Facts(A) & Facts()), texts(Facts() & Facts(A))], [[], ["a never"], ["a never"]])

    def test_and_gives_the_name_a_new_object(self):
        one = before = Facts(A)
        one &= Facts(C, A)
        self.same([texts(one), texts(before)], [["a never", "s apart 2"], ["a never"]])
        one &= B
        self.same([texts(one), texts(before)], [["a never", "s apart 2", "b only with a"], ["a never"]])
        self.assertIsInstance(one, Facts)
        other = Facts(C)
        self.same(texts(before & other), ["a never", "s apart 2"])
        self.same([texts(before), texts(other)], [["a never"], ["s apart 2"]])

    def test_wrong_values(self):
        def put_in(one, other):
            one &= other

        for value in NO_FACTS:
            for call in (lambda: Facts(value), lambda: Facts(A, value), lambda: Facts(A, value, None), lambda: Facts(A) & value, lambda: put_in(Facts(A), value)):
                self.refuses(InvalidFact, {"value": value}, call)
        self.refuses(InvalidFact, {"value": None}, Facts, None, 5)
        facts = Facts(A)
        self.refuses(InvalidFact, {"value": facts}, Facts, facts)

    def test_lists_are_new(self):
        facts = Facts(A, B)
        facts.listed().clear()
        facts.names().clear()
        self.same([texts(facts), facts.names()], [["a never", "b only with a"], ["a", "b"]])

    def test_class_value(self):
        self.same([Facts.MOST_STATES, Facts(A).MOST_STATES], [60, 60])


class Kept(Case):
    def test_rows(self):
        never = Facts(NeverFalls("s"))
        self.same(never.keeps(Row(BOOK, [[9, 5], [1, 6]])), False)
        self.same([never.keeps(row=Row(BOOK, [[9, 5], [1, 15]])), Facts().keeps(Row(BOOK, [[9, 5], [1, 6]]))], [True, True])

    def test_against_the_table(self):
        numbers = random.Random(1)
        seen = {True: 0, False: 0}
        for book in (BOOK, walking.THREE):
            for _ in range(300):
                facts = ruling.random_facts(numbers, book)
                row = walking.random_row(numbers, book, numbers.randint(0, 5), 2)
                wanted = ruling.kept(facts, row)
                seen[wanted] += 1
                self.same(facts.keeps(row), wanted)
        self.assertGreater(min(seen.values()), 100)

    def test_unknown_names(self):
        row = Row(BOOK, [[1, 1]])
        for facts, name in (
            (Facts(NeverFalls("z"), NeverFalls("c")), "c"), (Facts(OnlyWith("z", "a"), NotBoth("b", "t")), "t"), (Facts(AtMost("d", 1)), "d"),
        ):
            self.refuses(UnknownName, {"value": name}, facts.keeps, row)
            self.refuses(UnknownName, {"value": name}, states, BOOK, facts)


class States(Case):
    def test_example(self):
        facts = Facts(Apart("a", 3), AtMost("s", 1))
        self.same(states(BOOK, facts), [(0, 0), (0, 1), (1, 0), (1, 1), (2, 0), (2, 1)])
        self.same(states(facts=facts, book=BOOK), states(BOOK, facts))

    def test_first(self):
        for facts, wanted in (
            (Facts(), ()), (Facts(A, B, NotBoth("a", "b")), ()), (Facts(C), (0,)), (Facts(AtMost("a", 7)), (7,)),
            (Facts(AtMost("a", 7), A, C, AtMost("b", 0), Apart("c", 10 ** 30)), (7, 0, 0, 0)), (Facts(AtMost("a", 10 ** 39)), (10 ** 39,)),
        ):
            self.same([first_state(facts), first_state(facts=facts)], [wanted, wanted])

    def test_allowed_of_each_kind(self):
        for fact, state, letter, wanted in (
            (OnlyWith("a", "b"), (), ("a",), False), (OnlyWith("a", "b"), (), ("a", "b"), True), (OnlyWith("a", "b"), (), ("b",), True),
            (OnlyWith("a", "b"), (), (), True), (NotBoth("a", "b"), (), ("a", "b"), False), (NotBoth("a", "b"), (), ("b", "c", "a"), False),
            (NotBoth("a", "b"), (), ("a",), True), (NotBoth("a", "b"), (), ("b",), True), (NotBoth("a", "b"), (), ("c",), True),
            (NeverFalls("a"), (), ("a",), False), (NeverFalls("a"), (), ("b", "s"), True), (NeverFalls("a"), (), (), True),
            (Apart("a", 3), (0,), ("a",), True), (Apart("a", 3), (1,), ("a",), False), (Apart("a", 3), (1,), ("b",), True),
            (Apart("a", 3), (10 ** 30,), ("b", "a"), False), (AtMost("a", 3), (0,), ("a",), False), (AtMost("a", 3), (0,), ("b",), True),
            (AtMost("a", 3), (1,), ("a",), True), (AtMost("a", 0), (10 ** 30,), ("a",), True),
        ):
            self.same(is_allowed(Facts(fact), state, letter), wanted)
            self.same(is_allowed(letter=letter, facts=Facts(fact), state=state), wanted)

    def test_next_of_each_kind(self):
        for fact, state, letter, wanted in (
            (OnlyWith("a", "b"), (), ("a",), ()), (NeverFalls("a"), (), ("a",), ()), (Apart("a", 3), (0,), ("a",), (2,)),
            (Apart("a", 3), (0,), ("b",), (0,)), (Apart("a", 3), (2,), ("b",), (1,)), (Apart("a", 3), (1,), (), (0,)), (Apart("a", 3), (2,), ("a",), (2,)),
            (Apart("a", 1), (0,), ("a",), (0,)), (Apart("a", 3), (9,), (), (8,)), (Apart("a", 3), (9,), ("a",), (2,)),
            (AtMost("a", 3), (3,), ("a", "b"), (2,)), (AtMost("a", 3), (1,), ("a",), (0,)), (AtMost("a", 3), (0,), ("a",), (0,)),
            (AtMost("a", 3), (2,), ("b",), (2,)), (AtMost("a", 3), (9,), (), (9,)), (Apart("a", 10 ** 39), (0,), ("a",), (10 ** 39 - 1,)),
        ):
            self.same(next_state(Facts(fact), state, letter), wanted)
            self.same(next_state(letter=letter, facts=Facts(fact), state=state), wanted)

    def test_against_the_texts(self):
        numbers = random.Random(2)
        seen = {True: 0, False: 0}
        for _ in range(400):
            book = numbers.choice([BOOK, walking.THREE, LARGE])
            facts = ruling.random_facts(numbers, book, 5)
            state = tuple(numbers.randint(0, 3) for _ in first_state(facts))
            letter = tuple(numbers.sample(book.names(), numbers.randint(0, len(book.names()))))
            wanted = ruling.allowed(facts, state, letter)
            seen[wanted] += 1
            self.same([is_allowed(facts, state, letter), next_state(facts, state, letter)], [wanted, ruling.behind(facts, state, letter)])
        self.assertGreater(min(seen.values()), 50)

    def test_reachable_against_a_search(self):
        numbers = random.Random(3)
        for _ in range(150):
            book = numbers.choice(walking.SMALL_BOOKS + [walking.PAIRS])
            facts = ruling.random_facts(numbers, book, 4)
            self.same(states(book, facts), ruling.reachable(book, facts))

    def test_states_that_letters_keep_from_being_reached(self):
        for book, facts, wanted in (
            (BOOK, Facts(), [()]), (BOOK, Facts(AtMost("a", 2), A), [(2,)]), (BOOK, Facts(A, Apart("a", 5)), [(0,)]),
            (BOOK, Facts(AtMost("a", 1), OnlyWith("b", "a"), AtMost("b", 3)), [(0, 2), (0, 3), (1, 3)]),
            (BOOK, Facts(AtMost("s", 2), A, NeverFalls("b")), [(2,)]),
            (walking.PLAIN, Facts(AtMost("a", 1), NotBoth("a", "b"), Apart("b", 2)), [(0, 0), (0, 1), (1, 0), (1, 1)]),
        ):
            self.same(states(book, facts), wanted)

    def test_sixty_states_and_more(self):
        for facts, many in (
            (Facts(AtMost("a", 59)), 60), (Facts(Apart("a", 60)), 60), (Facts(AtMost("a", 9), AtMost("b", 5)), 60),
            (Facts(Apart("a", 6), AtMost("b", 9)), 60), (Facts(AtMost("a", 60), A), 1), (Facts(AtMost("a", 10 ** 39), A), 1),
        ):
            self.same(len(states(BOOK, facts)), many)
        for facts in (
            Facts(AtMost("a", 60)), Facts(Apart("a", 61)), Facts(AtMost("a", 10 ** 39)), Facts(Apart("a", 10 ** 39)),
            Facts(AtMost("a", 10), AtMost("b", 5)), Facts(Apart("a", 8), Apart("b", 8)), Facts(AtMost("s", 60), B),
        ):
            self.refuses(TooMany, {"what": "states", "limit": 60}, states, BOOK, facts)
            self.same(len(first_state(facts)) > 0, True)
        self.refuses(UnknownName, {"value": "c"}, states, BOOK, Facts(AtMost("a", 60), NeverFalls("c")))

    def test_all_names_of_a_large_book(self):
        each = [Apart(name, 1) for name in LARGE.names()] + [OnlyWith(name, "all") for name in LARGE.names()[:-4]]
        self.same(states(LARGE, Facts(*each)), [(0,) * 9])

    def test_wrong_states(self):
        facts = Facts(A, C, AtMost("b", 2))
        for value in NO_STATES:
            for call in (is_allowed, next_state):
                self.refuses(InvalidState, {"value": value}, call, facts, value, ("a",))
                self.refuses(InvalidState, {"value": value}, call, facts, value, None)
        for value in NO_COUNTS:
            self.refuses(InvalidState, {"value": (0, value)}, next_state, facts, (0, value), ())
        self.refuses(InvalidState, {"value": (0,)}, is_allowed, Facts(A), (0,), ())
        self.refuses(InvalidState, {"value": ()}, is_allowed, Facts(C), (), ())

    def test_wrong_letters(self):
        facts = Facts(A, C, AtMost("b", 2))
        for call in (is_allowed, next_state):
            for value in [None, True, 0, "a", "", ["a"], [], {}, {"a": 1}, ANY, ("a", ["b"]), ("a", "")] + [(name,) for name in NO_NAMES]:
                self.refuses(InvalidLetter, {"value": value}, call, facts, (0, 0), value)
        self.same([is_allowed(facts, (0, 0), ("z9", "c")), next_state(facts, (1, 2), ("z9", "s", "b"))], [True, (1, 1)])

    def test_a_row_keeps_facts_if_its_letters_are_allowed(self):
        numbers = random.Random(4)
        seen = {True: 0, False: 0}
        for _ in range(200):
            facts = ruling.random_facts(numbers, BOOK)
            names = BOOK.names()
            letters = numbers.choices([letter for _, letter, _ in walking.moves(BOOK, names)], k=4)
            state, wanted = first_state(facts), True
            for letter in letters:
                wanted = wanted and is_allowed(facts, state, letter)
                state = next_state(facts, state, letter)
            seen[wanted] += 1
            self.same(facts.keeps(strict_row(BOOK, names, letters)), wanted)
        self.assertGreater(min(seen.values()), 30)


if __name__ == "__main__":
    unittest.main()
