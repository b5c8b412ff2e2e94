import itertools
import random
import unittest
from unittest.mock import ANY

from surerise.desk import Desk
from surerise.enough import least_sets
from surerise.errors import BelowZero, CommandFailed, InvalidFact, InvalidLine, InvalidLooks, InvalidName, InvalidQuestion
from surerise.errors import InvalidThing, NothingToUndo, RiseError, TooMany, TooShort, UnknownName, ZeroBound
from surerise.facts import AtMost, Fact, NeverFalls, OnlyWith
from surerise.factors import least_factor
from surerise.factsets import Facts, states
from surerise.questions import Question
from surerise.questiontexts import read_question
from surerise.rows import Row
from surerise.stores import Store
from surerise.under import is_below
from surerise.wholes import Whole
from tests import ruling, walking
from tests.support import NO_LISTS, NO_NAMES, Case
from tests.test_under import LARGE, random_expression, sum_of

BOOK = walking.BOOK
FORTY = "1234567890" * 4
SET_UP = ["ask sum = rise s 1 0", "ask each = truth s 1 0", "row r = 9 5 / 1 6", "fact f = s never", "fact g = s only with a", "fact h = s only with b"]
RISE = Question.rising(BOOK, "s", 1)
PARTS = Question.truth(BOOK, "s", 1)
ROW = Row(BOOK, [[9, 5], [1, 6]])


def filled():
    desk = Desk(BOOK)
    desk.do_all(*SET_UP)
    return desk


def shown(desk):
    """All that can be seen of a desk."""
    things = {name: thing.looks() if isinstance(thing := desk.named(name), Row) else (thing.steps(), thing.readings()) if isinstance(thing, Question) else str(thing)
              for name in desk.names()}
    return [desk.names(), len(desk), desk.changes, desk.log(), things]


def past(desk):
    """All that is seen of a desk, and of what it remembers, change by change."""
    def back(held):
        found = [shown(held)]
        while held.changes:
            held.undo()
            found.append(shown(held)[:2] + shown(held)[4:])
        return found
    return desk.tried(back)


class Lines(Case):
    def test_example(self):
        desk = Desk(BOOK)
        answers = desk.do_all("ask sum = rise s 1 0", "ask each = truth s 1 0", "row r = 9 5 / 1 6", "fact f = s never", "value sum r", "compare sum each", "compare sum each f")
        self.same(answers, ["span 1", "span 1", "gaps 1", "states 1", "7", "none", "<="])
        found = [desk.do("fact g = s only with a"), desk.do("fact h = s only with b"), desk.do("enough sum each f g h"), desk.do("factor sum each f"), desk.do("undo"), desk.names()]
        self.same(found, ["states 1", "states 1", "f / g h", "1", "undone", ["each", "f", "g", "r", "sum"]])

    def test_questions(self):
        for text, answer in (
            ("0", "span 0"), ("rise s 2 0 - 2 truth s 1 1", "span 2"), ("read a 7", "span 7"), ("-step a 3", "span 4"), ("step a 99", "span 100"), ("1 step b 0", "span 1"),
        ):
            desk = Desk(BOOK)
            self.same([desk.do(f"ask q = {text}"), desk.named("q") == read_question(BOOK, text)], [answer, True])
            self.same(desk.do(line=f"ask q2 = {text}"), answer)
        for text in ("x", " ", "= 0", "0 ", "rise s 1", "rise t 1 0", "step a 0 + ", "\n", "step a 100", "0 = 0", "--", "q"):
            self.refuses(InvalidQuestion, {"value": text}, Desk(BOOK).do, f"ask q = {text}")

    def test_rows(self):
        for text, looks in (
            ("9 5 / 1 6", [[9, 5], [1, 6]]), ("0 0", [[0, 0]]), (f"{FORTY} 1 / 0 {FORTY}", [[int(FORTY), 1], [0, int(FORTY)]]), ("1 2 / 1 2 / 1 2 / 3 4", [[1, 2]] * 3 + [[3, 4]]),
        ):
            desk = Desk(BOOK)
            self.same([desk.do(f"row r = {text}"), desk.named("r") == Row(BOOK, looks)], [f"gaps {len(looks) - 1}", True])
        for text in (
            "9", "9 5 1", "9 5 / 1", "9 5 /", "/ 9 5", "9 5 / / 1 6", "9 5/1 6", "9 5 /1 6", "9 5  / 1 6", " 9 5", "9 5 ", "9  5", "09 5", "9 -5", "9 +5", "9 5.0", "9 5 / 1 6\n", "9\n5", "a b",
            f"{FORTY}1 5", "/", " ", " / ", "9 5 // 1 6", "= 9 5", "9 5 = 1 6", "look 9 5", "9 x", "9 5 / 1 6 /", "9,5",
        ):
            self.refuses(InvalidLooks, {"value": text}, Desk(BOOK).do, f"row r = {text}")
        self.same(Desk(LARGE).do("row r = 1 2 3 4 5 / 5 4 3 2 1"), "gaps 1")

    def test_facts(self):
        for text, answer in (("s never", "states 1"), ("a only with b", "states 1"), ("a not with s", "states 1"), ("a apart 3", "states 3"), ("s at most 5", "states 6"),
                             ("s at most 59", "states 60"), ("b apart 60", "states 60"), ("b apart 1", "states 1")):
            desk = Desk(BOOK)
            self.same([desk.do(f"fact f = {text}"), str(desk.named("f"))], [answer, text])
        for text in ("never", "s Never", "s never ", " s never", "s only with s", "a at most -1", "a apart 0", " ", "\n", "= s never", "f"):
            self.refuses(InvalidFact, {"value": text}, Desk(BOOK).do, f"fact f = {text}")
        for text, name in (("z never", "z"), ("z only with c", "z"), ("a not with c", "c"), ("z at most 99", "z"), ("only only with with", "only")):
            self.refuses(UnknownName, {"value": name}, Desk(BOOK).do, f"fact f = {text}")
        for text in ("a at most 60", "s apart 61", f"a at most {FORTY}"):
            desk = filled()
            before = past(desk)
            for name in ("f", "new"):
                self.refuses(TooMany, {"what": "states", "limit": 60}, desk.do, f"fact {name} = {text}")
            self.same(past(desk), before)

    def test_drop_and_undo(self):
        desk = filled()
        self.same([desk.do("drop sum"), desk.do("drop r"), desk.do("drop g"), desk.names()], ["dropped ask", "dropped row", "dropped fact", ["each", "f", "h"]])
        self.same([desk.do("undo"), desk.names()], ["undone", ["each", "f", "g", "h"]])
        self.same([desk.do("undo"), desk.do("undo"), desk.do("undo"), desk.names()], ["undone"] * 3 + [["each", "f", "g", "r", "sum"]])
        for name in ("h", "x", "Sum", "=", "\n"):
            self.refuses(UnknownName, {"value": name}, desk.do, f"drop {name}")
        for _ in range(5):
            desk.do("undo")
        self.refuses(NothingToUndo, {}, desk.do, "undo")

    def test_value(self):
        desk = filled()
        desk.do_all("ask less = -2 step s 0", "row short = 1 1", "ask big = 5 read a 0", f"row high = {FORTY} 0")
        for line, answer in (("value sum r", "7"), ("value each r", "2"), ("value less r", "-14"), ("value big high", str(5 * int(FORTY)))):
            self.same(desk.do(line), answer)
        self.refuses(TooShort, {"needed": 1}, desk.do, "value sum short")
        for line, name in (("value sum sum", "sum"), ("value r r", "r"), ("value f r", "f"), ("value x y", "x"), ("value sum y", "y"), ("value r sum", "r"), ("value sum f", "f")):
            self.refuses(UnknownName, {"value": name}, desk.do, line)

    def test_keeps(self):
        desk = filled()
        desk.do_all("row up = 1 1 / 5 5", "fact no = b never", "fact few = s at most 1")
        for line, answer in (("keeps r f", "no"), ("keeps up f", "yes"), ("keeps r g", "yes"), ("keeps r h", "no"), ("keeps r g no few", "yes"), ("keeps r g no few f", "no"),
                             ("keeps up f g h no few f", "yes"), ("keeps r g g g", "yes")):
            self.same(desk.do(line), answer)
        for line, name in (("keeps f f", "f"), ("keeps sum f", "sum"), ("keeps r r", "r"), ("keeps r f sum", "sum"), ("keeps x y", "x"), ("keeps r g y z", "y"), ("keeps x r", "x")):
            self.refuses(UnknownName, {"value": name}, desk.do, line)

    def test_compare(self):
        desk = filled()
        desk.do_all("ask also = step s 0", "ask zero = 0", "ask sa = step a 0", "ask late = step a 1", "ask ready = read b 0", "fact na = a never", "fact nb = b never")
        for line, answer in (
            ("compare sum each", "none"), ("compare sum each f", "<="), ("compare each sum f", ">="), ("compare sum each g", "none"), ("compare sum each g h", "<="), ("compare sum also", "="),
            ("compare sum sum f g h", "="), ("compare each sum na nb", "both"), ("compare zero sa", "<="), ("compare each sa", ">="), ("compare zero zero", "="), ("compare sa late", "none"),
            ("compare zero ready", "<="), ("compare sum each f f f", "<="), ("compare sa late na nb f", "none"),
        ):
            self.same(desk.do(line), answer)
        for line, name in (("compare r sum", "r"), ("compare sum f", "f"), ("compare sum each sum", "sum"), ("compare x y", "x"), ("compare sum each f x r", "x"), ("compare f x", "f")):
            self.refuses(UnknownName, {"value": name}, desk.do, line)

    def test_factor(self):
        desk = filled()
        desk.do_all("ask heavy = 3 step a 0 + step b 0", "ask twice = 2 truth s 1 0", "ask zero = 0", "ask less = -truth s 1 0", "ask far = step s 0 - truth s 1 0")
        for line, answer in (
            ("factor heavy twice", "3/2"), ("factor sum each", "none"), ("factor sum each f", "1"), ("factor zero each", "0"), ("factor less each", "-1"), ("factor less twice", "-1/2"),
            ("factor twice each f g", "2"),
        ):
            self.same(desk.do(line), answer)
        for line, error in (("factor each far", BelowZero), ("factor each less f", BelowZero), ("factor each zero", ZeroBound)):
            self.assertRaises(error, desk.do, line)
        for line, name in (("factor r sum", "r"), ("factor sum r", "r"), ("factor sum each each", "each"), ("factor each far x", "x")):
            self.refuses(UnknownName, {"value": name}, desk.do, line)

    def test_enough(self):
        desk = filled()
        desk.do_all("ask zero = 0", "fact na = a never")
        for line, answer in (
            ("enough sum each f g h", "f / g h"), ("enough sum each h g f", "f / h g"), ("enough zero each f g", "-"), ("enough zero each", "-"), ("enough sum each", "none"),
            ("enough sum each g na", "g na"), ("enough sum each g", "none"), ("enough sum each na h", "none"), ("enough sum each f f g", "f / f"), ("enough sum each g h g", "g h / h g"), ("enough sum sum", "-"), ("enough sum each f g h na na", "f / g h / g na / g na"),
        ):
            self.same(desk.do(line), answer)
        self.refuses(TooMany, {"what": "facts", "limit": 6}, desk.do, "enough sum each f f f f f f f")
        self.same(desk.do("enough sum each f f f f f f"), "f / f / f / f / f / f")
        for line, name in (("enough r sum", "r"), ("enough sum each f r", "r"), ("enough x y f f f f f f f", "x")):
            self.refuses(UnknownName, {"value": name}, desk.do, line)

    def test_answers_against_the_functions(self):
        numbers = random.Random(51)
        for _ in range(60):
            book = numbers.choice([BOOK, walking.THREE, walking.PLAIN])
            desk = Desk(book)
            one, other = (self.question(numbers, book) for _ in range(2))
            facts = [ruling.random_fact(numbers, book) for _ in range(numbers.randint(0, 3))]
            desk.put("one", one)
            desk.put("other", other)
            for number, fact in enumerate(facts):
                desk.put(f"f{number}", fact)
            names = [f"f{number}" for number in range(len(facts))]
            line = " ".join(["one", "other"] + names)
            below, above = is_below(one, other, Facts(*facts)), is_below(other, one, Facts(*facts))
            self.same(desk.do(f"compare {line}"), "=" if one == other else "both" if below and above else "<=" if below else ">=" if above else "none")
            sets = least_sets(one - other, facts)
            self.same(desk.do(f"enough {line}"), " / ".join(" ".join(names[k] for k in some) or "-" for some in sets) or "none")
            try:
                ratio = least_factor(one, other, Facts(*facts))
            except RiseError as error:
                self.assertRaises(type(error), desk.do, f"factor {line}")
            else:
                self.same(desk.do(f"factor {line}"), "none" if ratio is None else str(ratio[0]) if ratio[1] == 1 else f"{ratio[0]}/{ratio[1]}")
            if facts:
                self.same(desk.do(f"fact copy = {facts[0]}"), f"states {len(states(book, Facts(facts[0])))}")

    def question(self, numbers, book):
        while True:
            found = random_expression(numbers, book)
            if isinstance(found, Question) and len(found.asked()) <= 3:
                return found

    def test_limits_of_what_is_asked(self):
        desk = Desk(LARGE)
        names = LARGE.names()
        desk.put("six", sum_of(names[:6]))
        desk.put("seven", sum_of(names[:7]))
        desk.put("zero", Question.zero(LARGE))
        desk.do(f"fact f = {names[6]} never")
        for line in ("compare seven zero", "compare six zero f", "factor six seven", "enough seven zero", "enough six zero f"):
            self.refuses(TooMany, {"what": "names", "limit": 6}, desk.do, line)
        self.same([desk.do("compare seven seven f"), desk.do("compare seven six"), desk.do("compare six zero")], ["=", ">=", ">="])
        desk.put("many", AtMost("a", 60))
        for line in ("compare six zero many", "factor six six many", "enough zero six many"):
            self.refuses(TooMany, {"what": "states", "limit": 60}, desk.do, line)
        self.same(desk.do("compare six six many"), "=")
        desk.do("row r = 1 1 1 1 1")
        self.same(desk.do("keeps r many"), "yes")


class Written(Case):
    RIGHT = ["ask sum = 0", "row r = 9 5 / 1 6", "fact f = s never", "drop sum", "undo", "value sum r", "keeps r f", "keeps r f g", "compare sum each", "compare sum each f",
             "factor sum each", "factor sum each f g", "enough sum each", "enough sum each f g h"]

    def refused(self, line):
        desk = filled()
        self.refuses(InvalidLine, {"value": line}, desk.do, line)

    def test_values_that_are_no_lines(self):
        for value in NO_LISTS + [[], (), ["undo"], ("undo",), b"undo", ANY, ROW]:
            self.refused(value)

    def test_lines_that_are_not_written_so(self):
        for line in (
            "", " ", "\n", "ask", "ask ", "ask sum", "ask sum =", "ask sum = ", "ask  = 0", "ask = 0", "ask sum=0", "ask sum  = 0", "ask sum 0", "ask sum == 0", "ask su m = 0", "asks sum = 0", " ask sum = 0",
            "Ask sum = 0", "ask\nsum = 0", "row", "row r =", "row r = ", "row = 1 1", "row  = 1 1", "row r s = 1 1", "fact f =", "fact f = ", "fact = s never", "fact f f = s never", "facts f = s never",
            "drop", "drop ", "drop a b", "drop  a", "drop a ", " drop a", "drop = ", "undo ", " undo", "undo sum", "undo\n", "undone", "Undo", "value", "value sum", "value sum r f", "value sum  r", "value sum r ",
            "value  sum r", "keeps", "keeps r", "keeps r ", "keeps r  f", "keeps r f ", "compare", "compare sum", "compare sum ", "compare sum each ", "compare  sum each", "compare sum each  f",
            "factor sum", "factor", "factor sum each f ", "enough sum", "enough", "enough sum  each", "enough sum each f  g", "log", "names", "put a = 0", "question q = 0", "compares sum each",
        ):
            self.refused(line)

    def test_one_thing_otherwise(self):
        """A line with one sign otherwise is refused as no line, or is one with other names or texts."""
        heads = ("ask ", "row ", "fact ")
        for right in self.RIGHT:
            for at in range(len(right) + 1):
                for sign in " =aA1\n/":
                    for line in (right[:at] + sign + right[at:], right[:at] + sign + right[at + 1:], right[:at] + right[at + 1:]):
                        self.same(self.is_refused(line), not self.is_line(line, heads))

    def is_refused(self, line):
        try:
            filled().do(line)
        except InvalidLine as error:
            self.same(error.value, line)
            return True
        except (RiseError, UnknownName, NothingToUndo, TooMany):
            return False
        return False

    def is_line(self, line, heads):
        for head in heads:
            if line.startswith(head) or line == head[:-1]:
                words = line.split(" ")
                # The name ends at the first sign that stands alone, and something stands behind it.
                return len(words) > 3 and words[1] != "" and words[2] == "=" and " ".join(words[3:]) != ""
        words = line.split(" ")
        least = {"drop": (1, 1), "undo": (0, 0), "value": (2, 2), "keeps": (2, 99), "compare": (2, 99), "factor": (2, 99), "enough": (2, 99)}
        low, high = least.get(words[0], (1, 0))
        return "" not in words and low <= len(words) - 1 <= high

    def test_names_with_signs(self):
        """Names that are no NAMES make lines all the same, and texts may have any signs."""
        desk = filled()
        for line, name in (("ask = = 0", "="), ("row A = 1", "A"), ("fact a= = s never", "a="), ("ask 1 = nothing", "1"), ("ask a\nb = 0", "a\nb"), ("ask longername = 0", "longername"), ("row / = /", "/")):
            self.refuses(InvalidName, {"value": name}, desk.do, line)
        self.refuses(InvalidQuestion, {"value": "b = 0"}, desk.do, "ask a = b = 0")
        self.refuses(InvalidQuestion, {"value": " 0"}, desk.do, "ask a =  0")
        self.refuses(InvalidLooks, {"value": "= 1 1"}, desk.do, "row a = = 1 1")
        self.refuses(UnknownName, {"value": "="}, desk.do, "drop =")
        self.refuses(UnknownName, {"value": "a\nb"}, desk.do, "value a\nb /")

    def test_errors_in_their_sequence(self):
        desk = filled()
        for line, error, value in (
            ("ask A = ?", InvalidName, "A"), ("row A = ?", InvalidName, "A"), ("fact A = z never", InvalidName, "A"), ("fact q = z only with zz", UnknownName, "z"),
            ("value r f", UnknownName, "r"), ("value sum f", UnknownName, "f"), ("keeps f sum", UnknownName, "f"), ("compare sum r f", UnknownName, "r"),
        ):
            self.refuses(error, {"value": value}, desk.do, line)
        self.same(shown(desk), shown(filled()))

    def test_nothing_changes_with_an_error(self):
        desk = filled()
        before = past(desk)
        for line in ("ask sum = x", "row r = 1", "fact f = s", "fact f = z never", "drop x", "value r r", "compare sum x", "factor sum zero", "", None, "ask A = 0", "fact f = a at most 99"):
            with self.assertRaises((RiseError, UnknownName, TooMany)):
                desk.do(line)
            self.same(past(desk), before)


class Changes(Case):
    def test_a_new_desk(self):
        desk = Desk(book=BOOK)
        self.same([desk.book == BOOK, shown(desk), Desk.MOST_CHANGES, desk.MOST_CHANGES], [True, [[], 0, 0, [], {}], 20, 20])
        self.refuses(NothingToUndo, {}, desk.undo)

    def test_answers_behind_changes(self):
        desk = filled()
        self.same([desk.do("value sum r"), desk.do("ask sum = 2 step s 0"), desk.do("value sum r")], ["7", "span 1", "14"])
        self.same([desk.do("row r = 0 0 / 1 1"), desk.do("value sum r"), desk.do("undo"), desk.do("value sum r"), desk.do("undo"), desk.do("value sum r")],
                  ["gaps 1", "4", "undone", "14", "undone", "7"])
        desk.do("ask f = step a 0")
        self.refuses(UnknownName, {"value": "f"}, desk.do, "keeps r f")
        self.same([desk.do("value f r"), desk.do("undo"), desk.do("keeps r f")], ["1", "undone", "no"])

    def test_what_is_put_again_comes_back(self):
        desk = Desk(BOOK)
        desk.do_all("ask x = 0", "row x = 1 1", "fact x = s never", "drop x", "ask x = step a 0", "ask x = step a 0")
        kinds = []
        while desk.changes:
            desk.undo()
            kinds.append([type(desk.named(name)) for name in desk.names()])
        self.same(kinds, [[Question], [], [Fact.read("s never").__class__], [Row], [Question], []])

    def test_more_than_twenty_changes(self):
        desk = Desk(BOOK)
        for number in range(25):
            self.same(desk.do(f"row r = {number} 0"), "gaps 0")
            self.same(desk.changes, min(number + 1, 20))
        for number in range(20):
            self.same(desk.do("undo"), "undone")
            self.same([desk.changes, desk.named("r").looks()], [19 - number, [[23 - number, 0]]])
        for call in (desk.undo, lambda: desk.do("undo")):
            self.refuses(NothingToUndo, {}, call)
        self.same([desk.named("r").looks(), len(desk.log())], [[[4, 0]], 45])
        desk.do("row r = 7 7")
        self.same([desk.changes, desk.do("undo"), desk.named("r").looks()], [1, "undone", [[4, 0]]])

    def test_many_changes(self):
        desk = Desk(BOOK)
        numbers = random.Random(52)
        past_things, things, log = [], {}, []
        for _ in range(600):
            name = numbers.choice(["a", "b", "c", "d"])
            kind = numbers.randrange(5)
            line = [f"row {name} = {numbers.randint(0, 9)} 1", f"ask {name} = {numbers.randint(2, 9)} step a 0", f"fact {name} = s at most {numbers.randint(0, 9)}", f"drop {name}", "undo"][kind]
            quiet = numbers.random() < 0.3
            possible = past_things if kind == 4 else kind < 3 or name in things
            if possible and kind == 4:
                things = past_things.pop()
            elif possible:
                past_things = (past_things + [things])[-20:]
                things = {k: v for k, v in {**things, name: line}.items() if k != name or kind < 3}
            if not possible:
                self.assertRaises(LookupError, desk.do, line)
            elif quiet and kind == 4:
                self.same(desk.undo(), None)
            elif quiet and kind == 3:
                self.same(desk.drop(name), None)
            else:
                desk.do(line)
                log.append(line)
            self.same([desk.names(), desk.changes, desk.log(), len(desk)], [sorted(things), len(past_things), log, len(things)])
            for key, text in things.items():
                word, value = text.split(" ")[0], text.split(" = ")[1]
                self.same(shown(desk)[4][key], shown(self.made(word, value))[4]["x"])

    def made(self, word, value):
        desk = Desk(BOOK)
        desk.do(f"{word} x = {value}")
        return desk


class Methods(Case):
    def test_put(self):
        desk = Desk(BOOK)
        self.same([desk.put("q", RISE), desk.put(thing=ROW, name="r"), desk.put("f", NeverFalls("s"))], [None, None, None])
        desk["g"] = OnlyWith("s", "a")
        desk["q"] = PARTS
        self.same([desk.names(), desk.changes, desk.log(), desk.named("q") == PARTS, desk.named(name="r") == ROW], [["f", "g", "q", "r"], 5, [], True, True])
        self.same([desk.do("value q r"), desk.do("keeps r g"), desk.do("undo"), desk.do("value q r"), desk.log()], ["2", "yes", "undone", "7", ["undo"]])
        self.same([desk.undo(), desk.names(), desk.drop(name="f"), desk.names(), desk.log()], [None, ["f", "q", "r"], None, ["q", "r"], ["undo"]])

    def test_facts_with_too_many_states(self):
        desk = filled()
        desk.put("m", AtMost("a", 60))
        self.same([desk.do("keeps r m"), desk.do("compare sum sum m"), desk.do("drop m")], ["yes", "=", "dropped fact"])

    def test_wrong_names(self):
        desk = filled()

        def put(name, thing):
            desk[name] = thing

        before = past(desk)
        for name in NO_NAMES:
            for call in (desk.put, put):
                self.refuses(InvalidName, {"value": name}, call, name, RISE)
                self.refuses(InvalidName, {"value": name}, call, name, None)
        self.same(past(desk), before)

    def test_wrong_things(self):
        desk = filled()

        def put(name, thing):
            desk[name] = thing

        before = past(desk)
        plain = walking.PLAIN
        for thing in NO_LISTS + [
            Question.zero(plain), Row(plain, [[1, 1]]), NeverFalls("c"), OnlyWith("s", "zz"), OnlyWith("zz", "s"), Facts(), Facts(NeverFalls("s")), Whole.rising(BOOK, "a"), BOOK,
            Store(BOOK, {"x": RISE}), "rise s 1 0", "s never", [[1, 1]], ANY, Desk(BOOK), Question, Fact, 1.5,
        ]:
            for call in (desk.put, put):
                self.refuses(InvalidThing, {"value": thing}, call, "x", thing)
                self.refuses(InvalidThing, {"value": thing}, call, "sum", thing)
        self.same(past(desk), before)

    def test_names_and_things(self):
        desk = filled()
        self.same([desk.names(), len(desk)], [["each", "f", "g", "h", "r", "sum"], 6])
        self.same([desk.named("sum") == RISE, desk.named("r") == ROW, str(desk.named("f"))], [True, True, "s never"])
        for value in NO_NAMES + ["x", "SUM", "a", "s", RISE, ROW]:
            self.same(value in desk, False)
            self.refuses(UnknownName, {"value": value}, desk.named, value)
            self.refuses(UnknownName, {"value": value}, desk.drop, value)
        self.same(["sum" in desk, "f" in desk, "sum" not in desk], [True, True, False])

    def test_log(self):
        desk = filled()
        desk.do_all("value sum r", "drop sum", "undo", "compare sum each", "keeps r f", "factor sum each f", "enough sum each f", "ask z = 0")
        self.assertRaises(UnknownName, desk.do, "drop x")
        desk.put("y", RISE)
        desk.undo()
        desk.drop("z")
        self.same(desk.log(), SET_UP + ["drop sum", "undo", "ask z = 0"])
        desk.log().clear()
        self.same(len(desk.log()), 9)

    def test_lists_are_new(self):
        desk = filled()
        desk.names().clear()
        desk.named("r").looks().clear()
        self.same(shown(desk), shown(filled()))


class Together(Case):
    def test_do_all(self):
        desk = Desk(BOOK)
        self.same([desk.do_all(), desk.do_all("ask q = 0"), desk.do_all("row r = 1 1", "value q r", "undo")], [[], ["span 0"], ["gaps 0", "0", "undone"]])
        self.same([desk.names(), desk.log(), desk.changes], [["q"], ["ask q = 0", "row r = 1 1", "undo"], 1])

    def test_refused_in_the_middle(self):
        for lines, error in (
            (["ask n = 0", "drop sum", "value sum r", "undo"], UnknownName), (["ask n = 0", "undo", "undo", "row r = 1 1", "oops"], InvalidLine), (["undo"] * 9, NothingToUndo),
            (["drop f", "fact f = a at most 60"], TooMany), (["ask sum = step a 9", "value sum r"], TooShort), ([None], InvalidLine), (["row r = 1", "undo"], InvalidLooks),
            ([f"row r = {k} {k}" for k in range(30)] + ["factor sum zero"], UnknownName), (["ask zero = 0", "factor sum zero"], ZeroBound), (["ask q = x"], InvalidQuestion),
        ):
            desk = filled()
            before = past(desk)
            with self.assertRaises(CommandFailed) as caught:
                desk.do_all(*lines)
            raised = caught.exception
            self.assertIs(type(raised.__cause__), error)
            at = raised.position
            self.same(list(vars(raised)), ["position"])
            self.same(past(desk), before)
            self.same(len(filled().do_all(*lines[:at])), at)
            self.assertRaises((RiseError, LookupError, ArithmeticError), filled().do_all, *lines[:at + 1])

    def test_tried(self):
        desk = filled()
        before = past(desk)

        def action(held):
            self.assertIs(held, desk)
            answers = held.do_all("ask n = 7 step s 0", "value n r", "drop sum", "undo", "undo", "undo")
            held.put("z", ROW)
            held["z"] = RISE
            held.drop("each")
            return answers, held.names(), held.log()

        found = desk.tried(action)
        self.same(found[0], ["span 1", "49", "dropped ask", "undone", "undone", "undone"])
        self.same(found[1], ["f", "g", "r", "sum", "z"])
        self.same(len(found[2]), 6 + 5)
        self.same(past(desk), before)
        self.same([desk.tried(action=lambda held: held.do("drop f")), past(desk) == before, desk.do("value sum r")], ["dropped fact", True, "7"])

    def test_tried_with_an_error(self):
        desk = filled()
        before = past(desk)
        for error in (KeyError("x"), CommandFailed(4), ValueError(), ZeroDivisionError(), KeyboardInterrupt()):
            def action(held):
                held.do("drop sum")
                held.undo()
                held.do("ask y = 0")
                raise error

            with self.assertRaises(type(error)) as caught:
                desk.tried(action)
            self.assertIs(caught.exception, error)
            self.same(past(desk), before)
        self.refuses(UnknownName, {"value": "nobody"}, desk.tried, lambda held: held.do_all("drop f") and held.drop("nobody"))
        self.same(past(desk), before)

    def test_tried_within_tried(self):
        desk = filled()
        before = past(desk)

        def inner(held):
            held.do("drop each")
            return held.names()

        def outer(held):
            held.do("drop sum")
            found = held.tried(inner)
            return found, held.names()

        self.same(desk.tried(outer), (["f", "g", "h", "r"], ["each", "f", "g", "h", "r"]))
        self.same(past(desk), before)

    def test_tried_with_more_than_twenty_changes(self):
        desk = filled()
        before = past(desk)
        desk.tried(lambda held: [held.do(f"row r = {k} 1") for k in range(50)])
        self.same(past(desk), before)

    def test_two_desks_by_turns(self):
        one, other = Desk(BOOK), Desk(LARGE)
        for number in range(5):
            one.do(f"ask q{number} = step a {number}")
            other.do(f"row r{number} = 1 2 3 4 {number}")
        one.do("undo")
        other.drop("r0")
        self.same([one.names(), other.names()], [["q0", "q1", "q2", "q3"], ["r1", "r2", "r3", "r4"]])
        self.same([one.changes, other.changes, len(one.log()), len(other.log())], [4, 6, 6, 5])
        self.same([one.book == BOOK, other.book == LARGE], [True, True])
        twin = Desk(BOOK)
        for (name, desk) in itertools.product(["q9", "q8"], [one, twin]):
            desk.put(name, RISE)
        self.same([one.changes, twin.changes, twin.names()], [6, 2, ["q8", "q9"]])


if __name__ == "__main__":
    unittest.main()
