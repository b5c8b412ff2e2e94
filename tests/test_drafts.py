import unittest

from surerise.books import Book
from surerise.drafts import Draft, Trial, tried
from surerise.errors import AboveCeiling, EmptyDraft, InvalidInteger, InvalidLook, NothingToUndo, UnknownName
from surerise.rows import Row
from tests.support import NO_COUNTS, NO_LISTS, NO_NAMES, Case

BOOK = Book(["b", "a"], [("s", ["a", "b"])])
BIG = 10 ** 30


def looks_of(draft):
    return draft.row().looks() if len(draft) else []


def history(draft):
    """All that a draft holds and remembers, from now on back."""
    twin = draft.copy()
    states = [(looks_of(twin), twin.ceiling)]
    while True:
        try:
            twin.undo()
        except NothingToUndo:
            return states
        states.append((looks_of(twin), twin.ceiling))


def filled_draft():
    draft = Draft(BOOK, ceiling=9)
    draft += [1, 2]
    draft.add((3, 9))
    draft.ceiling = None
    draft["a", 0] = BIG
    return draft


class DraftCase(Case):
    def put_item(self, draft, name, look, value):
        draft[name, look] = value

    def add_look(self, draft, readings):
        draft += readings

    def assign(self, draft, value):
        draft.ceiling = value

    def stays(self, draft, error, attributes, call, *args, **more):
        """A refused change leaves the draft, and what it remembers, as it was."""
        before = history(draft)
        self.refuses(error, attributes, call, *args, **more)
        self.same(history(draft), before)


class Drafts(DraftCase):
    def test_new(self):
        draft = Draft(BOOK)
        self.assertEqual(draft.book, BOOK)
        self.same([len(draft), draft.ceiling], [0, None])
        for ceiling in (None, 0, 5, BIG):
            self.same(Draft(book=BOOK, ceiling=ceiling).ceiling, ceiling)
        self.assertRaises(TypeError, Draft, BOOK, 5)

    def test_add_looks(self):
        draft = held = Draft(BOOK)
        draft += [1, 2]
        self.assertIs(draft, held)
        self.same(draft.add((BIG, 0)), None)
        self.same(draft.add(readings=[0, 0]), None)
        self.same(looks_of(held), [[1, 2], [BIG, 0], [0, 0]])
        self.same(len(draft), 3)
        self.same(draft.row() == Row(BOOK, [[1, 2], [BIG, 0], [0, 0]]), True)

    def test_change_readings(self):
        draft = filled_draft()
        draft["b", 1] = 7
        self.same(looks_of(draft), [[1, BIG], [7, 9]])
        self.same(draft.put("a", 1, 0), None)
        self.same(draft.put(value=4, look=0, name="b"), None)
        self.same(looks_of(draft), [[4, BIG], [7, 0]])

    def test_drop(self):
        draft = filled_draft()
        self.same(draft.drop(), None)
        self.same(looks_of(draft), [[1, BIG]])
        draft.drop()
        self.same(len(draft), 0)

    def test_ceiling(self):
        draft = filled_draft()
        for ceiling in (BIG, BIG + 1, None):
            draft.ceiling = ceiling
            self.same(draft.ceiling, ceiling)
        self.same(draft.cap(BIG), None)
        self.same(draft.cap(value=None), None)
        self.same(draft.ceiling, None)
        draft = Draft(BOOK, ceiling=3)
        draft += [3, 3]
        draft["a", 0] = 3
        draft.ceiling = 3
        self.same((looks_of(draft), draft.ceiling), ([[3, 3]], 3))
        empty = Draft(BOOK)
        empty.ceiling = 0
        empty += [0, 0]
        self.same(looks_of(empty), [[0, 0]])

    def test_undo(self):
        draft = filled_draft()
        draft.drop()
        steps = [
            ([[1, BIG]], None), ([[1, BIG], [3, 9]], None), ([[1, 2], [3, 9]], None), ([[1, 2], [3, 9]], 9),
            ([[1, 2]], 9), ([], 9),
        ]
        self.same(history(draft), steps)
        for looks, ceiling in steps:
            self.same((looks_of(draft), draft.ceiling), (looks, ceiling))
            if looks:
                self.same(draft.undo(), None)
        self.refuses(NothingToUndo, {}, draft.undo)
        draft += [1, 1]
        draft.undo()
        self.refuses(NothingToUndo, {}, draft.undo)

    def test_undo_of_changes_that_change_nothing(self):
        draft = Draft(BOOK, ceiling=5)
        draft += [1, 2]
        changes = [lambda: draft.put("b", 0, 1), lambda: self.put_item(draft, "a", 0, 2),
                   lambda: draft.cap(5), lambda: self.assign(draft, 5)]
        for change in changes:
            change()
        self.same(history(draft), [([[1, 2]], 5)] * 5 + [([], 5)])

    def test_undo_is_no_change(self):
        draft = filled_draft()
        draft.undo()
        draft.undo()
        self.same((looks_of(draft), draft.ceiling), ([[1, 2], [3, 9]], 9))
        draft["a", 0] = 5
        self.same(len(history(draft)), 4)

    def test_copy(self):
        draft = filled_draft()
        twin = draft.copy()
        self.assertIs(type(twin), Draft)
        self.same(history(twin), history(draft))
        before = history(draft)
        twin += [5, 5]
        twin["a", 0] = 0
        twin.ceiling = 9
        self.same(history(draft), before)
        draft.undo()
        draft.undo()
        self.same((looks_of(twin), twin.ceiling), ([[1, 0], [3, 9], [5, 5]], 9))
        self.assertEqual(twin.book, BOOK)

    def test_many_changes(self):
        draft = Draft(BOOK)
        draft += [0, 0]
        for value in range(1999):
            draft["a", 0] = value
        for value in reversed(range(1999)):
            self.same(draft.row()["a", 0], value)
            draft.undo()
        self.same(looks_of(draft), [[0, 0]])

    def test_rows_stay_as_they_were(self):
        draft = filled_draft()
        row = draft.row()
        draft["a", 0] = 1
        draft.drop()
        self.same(row.looks(), [[1, BIG], [3, 9]])
        readings = [1, 2]
        draft += readings
        readings[0] = 8
        self.same(readings, [8, 2])
        self.same(looks_of(draft)[-1], [1, 2])
        looks_of(draft)[0][0] = 77
        self.same(looks_of(draft), [[1, 1], [1, 2]])


class DraftsRefused(DraftCase):
    def test_ceiling(self):
        for value in NO_COUNTS:
            if value is not None:
                self.refuses(InvalidInteger, {"value": value}, Draft, BOOK, ceiling=value)
                draft = filled_draft()
                self.stays(draft, InvalidInteger, {"value": value}, draft.cap, value)
                self.stays(draft, InvalidInteger, {"value": value}, self.assign, draft, value)

    def test_ceiling_below_readings(self):
        draft = Draft(BOOK)
        for look in ([1, 4], [6, 2], [5, 9]):
            draft += look
        for ceiling, name, look in ((8, "a", 2), (5, "b", 1), (4, "b", 1), (3, "a", 0), (0, "b", 0)):
            self.stays(draft, AboveCeiling, {"name": name, "look": look}, draft.cap, ceiling)
            self.stays(draft, AboveCeiling, {"name": name, "look": look}, self.assign, draft, ceiling)

    def test_looks(self):
        wrong = NO_LISTS + [[], [1], [1, 2, 3]] + [[1, v] for v in NO_COUNTS] + [(v, 99) for v in NO_COUNTS]
        for value in wrong:
            draft = Draft(BOOK, ceiling=9)
            for number in range(3):
                self.stays(draft, InvalidLook, {"value": number}, draft.add, value)
                self.stays(draft, InvalidLook, {"value": number}, self.add_look, draft, value)
                draft += [0, number]

    def test_looks_above_the_ceiling(self):
        draft = Draft(BOOK, ceiling=4)
        draft += [4, 4]
        for readings, name in (([5, 5], "b"), ([5, 0], "b"), ((4, BIG), "a")):
            self.stays(draft, AboveCeiling, {"name": name, "look": 1}, draft.add, readings)
            self.stays(draft, AboveCeiling, {"name": name, "look": 1}, self.add_look, draft, readings)

    def test_readings(self):
        draft = Draft(BOOK, ceiling=9)
        draft += [1, 2]
        for change in (draft.put, lambda *values: self.put_item(draft, *values)):
            for value in NO_NAMES + ["s", "c", 5]:
                self.stays(draft, UnknownName, {"value": value}, change, value, 9, -1)
            for value in NO_COUNTS + [1, 2, BIG]:
                self.stays(draft, InvalidLook, {"value": value}, change, "a", value, True)
            for value in NO_COUNTS:
                self.stays(draft, InvalidInteger, {"value": value}, change, "a", 0, value)
            for value in (10, BIG):
                self.stays(draft, AboveCeiling, {"name": "a", "look": 0}, change, "a", 0, value)

    def test_empty(self):
        draft = Draft(BOOK)
        self.stays(draft, EmptyDraft, {}, draft.drop)
        self.stays(draft, EmptyDraft, {}, draft.row)
        self.stays(draft, NothingToUndo, {}, draft.undo)
        self.stays(draft, InvalidLook, {"value": 0}, draft.put, "a", 0, 1)


class Trials(DraftCase):
    def change_all(self, draft):
        draft += [7, 7]
        draft["b", 0] = 6
        draft.ceiling = BIG
        for _ in range(4):
            draft.undo()
        draft.cap(None)
        draft.drop()
        return "done"

    def test_trial(self):
        draft = filled_draft()
        before = history(draft)
        with Trial(draft) as held:
            self.assertIs(held, draft)
            self.change_all(held)
            self.same((looks_of(draft), draft.ceiling), ([[1, 2]], None))
        self.same(history(draft), before)

    def test_undo_beyond_the_trial(self):
        draft = filled_draft()
        before = history(draft)
        with Trial(draft=draft):
            while draft.undo() is None and len(history(draft)) > 1:
                pass
            self.same(looks_of(draft), [])
        self.same(history(draft), before)

    def test_an_error_goes_on(self):
        draft = filled_draft()
        before = history(draft)
        with self.assertRaises(KeyError):
            with Trial(draft):
                self.change_all(draft)
                raise KeyError("x")
        self.same(history(draft), before)

    def test_a_return_ends_a_trial(self):
        draft = filled_draft()
        before = history(draft)

        def inside():
            with Trial(draft) as held:
                return self.change_all(held)

        self.same(inside(), "done")
        self.same(history(draft), before)

    def test_within_one_another(self):
        draft = filled_draft()
        before = history(draft)
        with Trial(draft):
            draft += [5, 5]
            between = history(draft)
            with Trial(draft):
                self.change_all(draft)
            self.same(history(draft), between)
            draft.drop()
        self.same(history(draft), before)

    def test_one_trial_again_and_within_itself(self):
        draft = filled_draft()
        trial = Trial(draft)
        draft += [5, 5]
        before = history(draft)
        for _ in range(2):
            with trial:
                draft.drop()
                between = history(draft)
                with trial:
                    self.change_all(draft)
                self.same(history(draft), between)
            self.same(history(draft), before)
        draft.drop()
        with trial:
            self.change_all(draft)
        self.same(len(draft), 2)

    def test_tried(self):
        draft = filled_draft()
        before = history(draft)
        found = []

        def action(held):
            found.append(held is draft)
            self.change_all(held)
            return found

        self.assertIs(tried(draft, action), found)
        self.same(found, [True])
        self.assertIs(tried(action=action, draft=draft), found)
        self.same(history(draft), before)
        self.same(tried(draft, lambda held: tried(held, lambda again: (again.drop(), len(again))) + (len(held),)),
                  (None, 1, 2))

    def test_tried_with_an_error(self):
        draft = filled_draft()
        before = history(draft)
        self.refuses(AboveCeiling, {"name": "b", "look": 0}, tried, draft, lambda held: held.cap(0))

        def action(held):
            self.change_all(held)
            held.put("c", 0, 0)

        self.refuses(UnknownName, {"value": "c"}, tried, draft, action)
        self.same(history(draft), before)


if __name__ == "__main__":
    unittest.main()
