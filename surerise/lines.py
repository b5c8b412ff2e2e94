"""Lines for a desk: their words, and the things that their texts stand for."""

from surerise.basics import is_numeral
from surerise.books import check_known
from surerise.errors import InvalidLine, InvalidLooks
from surerise.facts import Fact
from surerise.questions import Question
from surerise.questiontexts import read_question
from surerise.rows import Row

PUTTING = ("ask", "row", "fact")
# How many names stand behind the other words at least, and whether there may be more.
NAMING = {
    "drop": (1, False), "undo": (0, False), "value": (2, False), "keeps": (2, True),
    "compare": (2, True), "factor": (2, True), "enough": (2, True),
}


def words_of(line):
    """The words of a line; of one that puts a thing these are the first word, the name and the text."""
    if not isinstance(line, str):
        raise InvalidLine(line)
    word, _, rest = line.partition(" ")
    if word in PUTTING:
        name, _, text = rest.partition(" = ")
        if name == "" or " " in name or text == "":
            raise InvalidLine(line)
        return [word, name, text]
    words = line.split(" ")
    if "" in words or not has_many_names(word, len(words) - 1):
        raise InvalidLine(line)
    return words


def has_many_names(word, many):
    """Whether so many names may stand behind a word."""
    if word not in NAMING:
        return False
    least, more = NAMING[word]
    return many == least or (more and many > least)


def kind_of(thing):
    """The word with which a thing is put."""
    if isinstance(thing, Question):
        return "ask"
    return "row" if isinstance(thing, Row) else "fact"


def thing_of(book, word, text):
    """The thing that a text stands for, where it is put with a word."""
    if word == "ask":
        return read_question(book, text)
    if word == "row":
        return row_of(book, text)
    fact = Fact.read(text)
    for name in fact.names():
        check_known(book, name)
    return fact


def row_of(book, text):
    """The Row with the readings in a text."""
    looks = [part.split(" ") for part in text.split(" / ")]
    for words in looks:
        if len(words) != len(book) or not all([is_numeral(word) for word in words]):
            raise InvalidLooks(text)
    return Row(book, [[int(word) for word in words] for words in looks])
