import random
import unittest

from surerise.errors import InvalidQuestion
from surerise.questions import Question
from surerise.questiontexts import question_text, read_question
from tests import walking
from tests.support import NO_LISTS, Case

BOOK = walking.BOOK
LARGE = walking.LARGE
FORTY = "1234567890" * 4


def step(name, ago=0, book=BOOK):
    return Question.rising(book, name, 1).late(ago)


def show(name, ago=0, book=BOOK):
    return Question.showing(book, name).late(ago)


class Texts(Case):
    def test_example(self):
        excess = Question.rising(BOOK, "s", 1) - Question.truth(BOOK, "s", 1)
        self.same(question_text(excess), "-step a 0 - step b 0 + step s 0")
        read = read_question(BOOK, "rise s 2 0 - 2 truth s 1 1")
        self.same(question_text(read), "-2 step a 1 - 2 step b 1 + step s 0 + step s 1")
        mixed = -step("a", 3) + 2 * step("s") + show("b", 1)
        self.same(question_text(mixed), "-step a 3 + 2 step s 0 + read b 1")

    def test_texts_both_ways(self):
        for question, text in (
            (Question.zero(BOOK), "0"),
            (step("a"), "step a 0"),
            (-step("a"), "-step a 0"),
            (2 * step("a"), "2 step a 0"),
            (-2 * step("a"), "-2 step a 0"),
            (show("a"), "read a 0"),
            (-show("b", 100), "-read b 100"),
            (show("s", 2), "read a 2 + read b 2"),
            (step("s", 99), "step s 99"),
            (step("a") - step("a", 2) + step("a", 10), "step a 0 - step a 2 + step a 10"),
            (show("b") - 3 * show("a", 1) - step("s", 4), "-step s 4 - 3 read a 1 + read b 0"),
            (10 ** 39 * step("b") - 10 ** 39 * show("a"), f"1{'0' * 39} step b 0 - 1{'0' * 39} read a 0"),
        ):
            self.same(question_text(question), text)
            self.same(question_text(question=question), text)
            self.same(read_question(BOOK, text) == question, True)
            self.same(read_question(text=text, book=BOOK) == question, True)

    def test_random_texts_both_ways(self):
        numbers = random.Random(2)
        for book in walking.SMALL_BOOKS + [LARGE]:
            for _ in range(60):
                question = walking.random_question(numbers, book, 4, far=3)
                text = question_text(question)
                self.same(read_question(book, text) == question, True)
                terms = text.replace(" - ", " + -").split(" + ")
                numbers.shuffle(terms)
                mixed = " + ".join(terms).replace("+ -", "- ")
                self.same(read_question(book, mixed) == question, True)

    def test_order_of_terms(self):
        names = LARGE.names()
        text = " + ".join(f"step {name} {ago}" for name in names for ago in (0, 2, 11))
        text += " - " + " - ".join(f"5 read {name} {ago}" for name in LARGE.counters() for ago in (0, 9, 10))
        self.same(question_text(read_question(LARGE, text)), text)
        terms = text.replace(" - ", " + -").split(" + ")
        mixed = " + ".join(terms[::-1]).replace("+ -", "- ")
        self.same(question_text(read_question(LARGE, mixed)), text)

    def test_other_terms(self):
        for text, question in (
            ("rise a 3 2", Question.rising(BOOK, "a", 3).late(2)),
            ("-4 rise s 1 0", -4 * step("s")),
            ("truth s 2 1", Question.truth(BOOK, "s", 2).late(1)),
            ("truth b 1 0", step("b")),
            ("3 read s 5", 3 * show("s", 5)),
            ("1 step a 0", step("a")),
            ("-1 step a 0 + 1 read b 3", show("b", 3) - step("a")),
            ("read b 0 + step a 0", show("b") + step("a")),
            ("step s 0 + step a 0 - read s 1", step("s") + step("a") - show("s", 1)),
            ("step a 5 + step a 0", step("a") + step("a", 5)),
            ("rise a 100 0 + read a 100", Question.rising(BOOK, "a", 100) + show("a", 100)),
            ("rise s 1 99", step("s", 99)),
            ("truth s 99 1 - rise a 99 1", Question.rising(BOOK, "b", 99).late(1)),
        ):
            self.same(read_question(BOOK, text) == question, True)

    def test_the_same_term_twice_and_terms_that_take_one_another_away(self):
        for text, wanted in (
            ("step a 0 + step a 0", "2 step a 0"),
            ("step a 0 - step a 0", "0"),
            ("-read b 7 + 2 read b 7 - read b 7", "0"),
            ("rise a 5 0 - rise a 3 2", "step a 0 + step a 1"),
            ("truth s 1 0 - step a 0 - step b 0", "0"),
            ("read s 0 - read b 0", "read a 0"),
            ("step a 99 - step a 99", "0"),
            (f"{FORTY} step a 0 + {FORTY} step a 0", f"{2 * int(FORTY)} step a 0"),
        ):
            self.same(question_text(read_question(BOOK, text)), wanted)
        self.same(read_question(BOOK, "step a 99 - step a 99").span, 0)

    def test_names_that_are_words(self):
        book = walking.Book(["step", "read"], [("rise", ["read", "step"])])
        text = "step step 0 - 2 step rise 1 + read read 0"
        self.same(question_text(read_question(book, text)), text)
        self.same(question_text(read_question(book, "truth rise 1 0")), "step step 0 + step read 0")

    def test_long_numbers(self):
        self.same(read_question(BOOK, f"{FORTY} step a 0") == int(FORTY) * step("a"), True)
        self.same(question_text(-int(FORTY) * show("a")), f"-{FORTY} read a 0")

    def test_many_terms(self):
        text = " - ".join(["truth s 100 0"] * 400)
        found = read_question(BOOK, text)
        self.same(found == -398 * Question.truth(BOOK, "s", 100), True)


class Refused(Case):
    def refused(self, *texts):
        for text in texts:
            self.refuses(InvalidQuestion, {"value": text}, read_question, BOOK, text)

    def test_values_that_are_no_texts(self):
        self.refused(*NO_LISTS, 1, b"0", ["0"], ("step a 0",), {"step a 0": 1})

    def test_one_sign_otherwise(self):
        """Each text with one sign left out, doubled or changed is refused, or is the text of something else."""
        right = "-step a 3 + 2 step s 10 - read b 1 + 3 rise a 2 1"
        signs = " -+0123456789abcdefghijklmnopqrstuvwxyz\n.,SA"
        question = read_question(BOOK, right)
        accepted = 0
        for at in range(len(right) + 1):
            for sign in signs:
                for text in (right[:at] + sign + right[at:], right[:at] + sign + right[at + 1:], right[:at] + right[at + 1:]):
                    if text == right:
                        continue
                    try:
                        found = read_question(BOOK, text)
                    except InvalidQuestion as error:
                        self.same(error.value, text)
                        continue
                    accepted += 1
                    self.assertTrue(self.plainly_right(text), text)
                    # Only a weight of 1 can be written or left out.
                    if "1 step a" not in text and "1 read b" not in text:
                        self.same(found == question, False)
        self.assertGreater(accepted, 50)

    def plainly_right(self, text):
        number = "(0|[1-9][0-9]{0,39})"
        term = f"([1-9][0-9]{{0,39}} )?((step|read) [abs] {number}|(rise|truth) [abs] [1-9][0-9]* {number})"
        self.assertRegex(text, f"\\A-?{term}( [+-] {term})*\\Z")
        return True

    def test_wrong_texts(self):
        self.refused(
            "", " ", "-", "+", "-0", "00", "0 ", " 0", "0\n", "1", "step", "step a", "step a 0 ", " step a 0",
            "step  a 0", "step a  0", "step a 0\n", "step a 0 0", "read a 0 0", "rise a 0", "rise a 1", "truth s 1",
            "rise a 1 0 0", "+step a 0", "+ step a 0", "- step a 0", "--step a 0", "step a 0 +", "step a 0 + ",
            "step a 0 - ", "step a 0 step a 1", "step a 0+step a 1", "step a 0 +step a 1", "step a 0+ step a 1",
            "step a 0 + -step a 1", "step a 0 - -step a 1", "step a 0 - - step a 1", "step a 0 + + step a 1",
            "step a 0 + 0", "0 + step a 0", "0 step a 0", "-0 step a 0", "00 step a 0", "01 step a 0", "1 1 step a 0",
            "2step a 0", "-2 -step a 0", "step c 0", "step ab 0", "step A 0", "step a -1", "step a +1", "step a 00",
            "step a 01", "step a x", "step a 1.0", "Step a 0", "steps a 0", "a step 0", "step 0 a", "ask a 0",
            "rise a 0 0", "truth a 0 0", "rise a 00 0", "rise a 01 0", "rise a 1 00", "2 0", "2", "a", "step s",
            "step a 0 + step a", "step a 0,step b 0", "step a 0\nstep b 0", "step a\n0",
        )

    def test_spans(self):
        self.refused(
            "step a 100", "step s 101", "read a 101", "read s 200", "rise a 101 0", "rise a 100 1", "rise a 1 100",
            "truth s 101 0", "truth s 50 51", "step a 100 - step a 100", "read a 101 - read a 101",
            "step a 0 + rise b 60 41 - rise b 60 41", "rise a 1000 0", f"step a {FORTY}", f"read a {FORTY}",
            f"rise a {FORTY} 0", f"rise a 1 {FORTY}",
        )

    def test_forty_one_digits(self):
        self.refused(f"{FORTY}1 step a 0", f"-1{'0' * 40} read a 0", f"step a {'0' * 41}", f"step a 1 + {FORTY}1 step a 0")


if __name__ == "__main__":
    unittest.main()
