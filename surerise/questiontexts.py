"""Questions as texts, and back."""

from surerise.basics import is_numeral
from surerise.errors import InvalidQuestion
from surerise.questions import Question
from surerise.weights import total_of

# How many numbers stand behind the name in a term.
NUMBERS = {"step": 1, "read": 1, "rise": 2, "truth": 2}


def question_text(question):
    """The text of a question."""
    terms = [("step", question.steps()), ("read", question.readings())]
    text = "".join([term_text(word, key, weights[key]) for word, weights in terms for key in weights])
    if not text:
        return "0"
    # The first term stands without spaces, and without a sign that is no minus.
    return "-" + text[3:] if text[1] == "-" else text[3:]


def term_text(word, key, weight):
    """A term with its sign ahead of it."""
    name, ago = key
    sign = "-" if weight < 0 else "+"
    size = "" if abs(weight) == 1 else f"{abs(weight)} "
    return f" {sign} {size}{word} {name} {ago}"


def read_question(book, text):
    """The Question with a text."""
    terms = terms_of(book, text)
    if terms is None:
        raise InvalidQuestion(text)
    steps = [pair for word, pairs in terms for pair in pairs if word != "read"]
    readings = [pair for word, pairs in terms for pair in pairs if word == "read"]
    return Question(book, total_of(steps), total_of(readings))


def terms_of(book, text):
    """For each term of a text its word and its weights, None for any value that is no text of a question."""
    # In a right text no term but the first one has a minus directly ahead of it.
    if not isinstance(text, str) or "+ -" in text:
        return None
    if text == "0":
        return []
    terms = [term_of(book, part) for part in text.replace(" - ", " + -").split(" + ")]
    return terms if all([term is not None for term in terms]) else None


def term_of(book, part):
    """The word of a term and a list of its weights, None if it is not written rightly."""
    negative = part.startswith("-")
    words = (part[1:] if negative else part).split(" ")
    size = 1
    if is_numeral(words[0]):
        size = int(words[0])
        words = words[1:]
    if size == 0 or not is_term(book, words):
        return None
    word, name = words[:2]
    ago = int(words[-1])
    gaps = int(words[2]) if len(words) > 3 else 1
    names = [name] if word == "step" or word == "rise" else book.members(name)
    weight = -size if negative else size
    return (word, [((one, ago + gap), weight) for one in names for gap in range(gaps)])


def is_term(book, words):
    """Whether these are the words of a term, without its weight."""
    if len(words) < 3 or words[0] not in NUMBERS or len(words) != NUMBERS[words[0]] + 2:
        return False
    if words[1] not in book or not all([is_numeral(word) for word in words[2:]]):
        return False
    numbers = [int(word) for word in words[2:]]
    if words[0] == "read":
        return numbers[0] <= Question.MOST_GAPS
    # A step is a rise over one gap.
    gaps = numbers[0] if len(numbers) == 2 else 1
    return gaps >= 1 and gaps + numbers[-1] <= Question.MOST_GAPS
