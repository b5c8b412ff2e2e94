"""Facts: at which gaps names of a row may fall."""

from surerise.basics import is_count, is_integer, is_name, is_numeral
from surerise.books import check_known
from surerise.errors import InvalidFact, InvalidInteger, InvalidName, RiseError, TakenName


class Fact:
    """What all facts share: their names, and the words of their text, which no other fact has."""

    def __init__(self, names, words):
        self._names = names
        self._words = words

    def names(self):
        """The one or two names, in their sequence."""
        return list(self._names)

    def keeps(self, row):
        """Whether a row keeps the fact."""
        for name in self._names:
            check_known(row.book, name)
        count = self.first_count()
        for gap in range(1, row.gaps + 1):
            letter = tuple([name for name in self._names if row.falls(name, gap)])
            if not self.allows(letter, count):
                return False
            count = self.next_count(letter, count)
        return True

    def first_count(self):
        """What a fact that counts begins with, None for one that does not."""
        return None

    def allows(self, letter, count):
        """Whether the names of a letter may fall at a gap, if this is the count ahead of it."""
        raise NotImplementedError("each kind of facts has its own")

    def next_count(self, letter, count):
        """The count behind a gap with a letter, if this is the one ahead of it."""
        return count

    @staticmethod
    def read(text):
        """The fact with a text."""
        fact = fact_of(text.split(" ")) if isinstance(text, str) else None
        if fact is None:
            raise InvalidFact(text)
        return fact

    def __eq__(self, other):
        return isinstance(other, Fact) and self._words == other._words

    def __str__(self):
        return " ".join(self._words)


class OnlyWith(Fact):
    """A name falls only where another one falls."""

    def __init__(self, name, other):
        check_names(name, other)
        Fact.__init__(self, [name, other], [name, "only", "with", other])

    def allows(self, letter, count):
        """Whether the name falls only together with the other one."""
        name, other = self._names
        return name not in letter or other in letter


class NotBoth(Fact):
    """Two names never fall at one gap."""

    def __init__(self, name, other):
        check_names(name, other)
        Fact.__init__(self, [name, other], [name, "not", "with", other])

    def allows(self, letter, count):
        """Whether one of the names does not fall."""
        name, other = self._names
        return name not in letter or other not in letter


class NeverFalls(Fact):
    """A name falls at no gap."""

    def __init__(self, name):
        check_name(name)
        Fact.__init__(self, [name], [name, "never"])

    def allows(self, letter, count):
        """Whether the name does not fall."""
        return self._names[0] not in letter


class Apart(Fact):
    """Between two falls of a name are at least so many gaps, counted from fall to fall."""

    def __init__(self, name, gaps):
        check_name(name)
        if not is_integer(gaps) or gaps < 1:
            raise InvalidInteger(gaps)
        Fact.__init__(self, [name], [name, "apart", str(gaps)])
        self._least = gaps

    def first_count(self):
        """The count is for how many further gaps the name must not fall, so it begins with none."""
        return 0

    def allows(self, letter, count):
        """Whether the name does not fall, or may fall again."""
        return self._names[0] not in letter or count == 0

    def next_count(self, letter, count):
        """The count begins again with each fall."""
        return self._least - 1 if self._names[0] in letter else max(0, count - 1)


class AtMost(Fact):
    """A name falls at no more than so many gaps of a row."""

    def __init__(self, name, falls):
        check_name(name)
        if not is_count(falls):
            raise InvalidInteger(falls)
        Fact.__init__(self, [name], [name, "at", "most", str(falls)])
        self._most = falls

    def first_count(self):
        """The count is how often the name may still fall."""
        return self._most

    def allows(self, letter, count):
        """Whether the name does not fall, or falls are left."""
        return self._names[0] not in letter or count > 0

    def next_count(self, letter, count):
        """One fall less is left behind each fall."""
        return max(0, count - 1) if self._names[0] in letter else count


def check_name(name):
    """Refuses what is no NAME."""
    if not is_name(name):
        raise InvalidName(name)


def check_names(name, other):
    """Refuses two names if one is no NAME, or both are the same."""
    check_name(name)
    check_name(other)
    if name == other:
        raise TakenName(name)


def fact_of(words):
    """The fact with these words, None if there is none."""
    try:
        return made_of(words)
    except RiseError:
        return None


def made_of(words):
    """The fact with these words, None if they are the words of no kind; it is refused if only its parts are wrong."""
    if len(words) == 2 and words[1] == "never":
        return NeverFalls(words[0])
    if len(words) == 3 and words[1] == "apart" and is_numeral(words[2]):
        return Apart(words[0], int(words[2]))
    if len(words) != 4:
        return None
    if words[1] == "at" and words[2] == "most" and is_numeral(words[3]):
        return AtMost(words[0], int(words[3]))
    if words[1] == "only" and words[2] == "with":
        return OnlyWith(words[0], words[3])
    if words[1] == "not" and words[2] == "with":
        return NotBoth(words[0], words[3])
    return None
