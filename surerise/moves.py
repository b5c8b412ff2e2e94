"""Moves from column to column, and what they are worth.

A move from a column is a letter and a column where it leads. With step weights it is worth the sum of the weights,
each times the step of the name.
"""

from surerise.columns import column_sums, columns
from surerise.errors import TooMany
from surerise.letters import agrees, all_letters, filled_parts, fits, in_sequence, is_letter_of, rises_between
from surerise.letters import strict_row
from surerise.rows import Row


class Moves:
    """All moves between the columns of a book, for asked names in the order of the book.

    Columns are told by their numbers in the list of all columns. Weights are lists of one for each asked name.
    """

    def __init__(self, book, asked):
        self._book = book
        self._asked = asked
        letters = all_letters(asked)
        filled = filled_parts(book, asked)
        self._possible = [number for number, letter in enumerate(letters) if agrees(filled, letter)]
        self._letters = [letters[number] for number in self._possible]
        self._shown = [column_sums(book, {name: 1}) for name in asked]
        goals = self._goals(len(columns(book)))
        # Many moves lead to the same columns, so the best of these is looked for only once.
        distinct = list({bits: True for row in goals for bits in row})
        self._ends = [numbers_in(bits) for bits in distinct]
        places = {bits: place for place, bits in enumerate(distinct)}
        self._table = [[places[bits] for bits in row] for row in goals]

    def worths(self, weights):
        """What climb needs to know of weights: a tuple of two lists, None if all weights are 0.

        For each column there is the sum of the weights, each times the reading, and the list that _gains tells.
        """
        if not any(weights):
            return None
        totals = self._totals(weights)
        return (totals, [self._gains(weights, number) for number in range(len(totals))])

    def climb(self, worths, beyond):
        """For each column the greatest worth of a move together with the height, in beyond, of where it leads."""
        if worths is None:
            # Each column is reached from each other one.
            return [max(beyond, key=int)] * len(beyond)
        totals, gains = worths
        reached = [total + height for total, height in zip(totals, beyond)]
        best = [max([reached[end] for end in ends], key=int) for ends in self._ends]
        tops = [max([more + best[at] for more, at in zip(gain, row)], key=int) for gain, row in zip(gains, self._table)]
        return [top - total for top, total in zip(tops, totals)]

    def best_move(self, weights, beyond, number):
        """The letter of a move from a column that is one of the best in the sense of climb, and where it leads."""
        reached = [total + height for total, height in zip(self._totals(weights), beyond)]
        row = [self._ends[at] for at in self._table[number]]
        tops = [max([reached[end] for end in ends], key=int) for ends in row]
        sums = [gain + top for gain, top in zip(self._gains(weights, number), tops)]
        at = sums.index(max(sums, key=int))
        goal = [end for end in row[at] if reached[end] == tops[at]][0]
        return (self._letters[at], goal)

    def _goals(self, many):
        """For each column, for each possible letter, the columns where it may lead as bits of a number."""
        marks = [marks_of(shown) for shown in self._shown]
        goals = []
        for number in range(many):
            found = [(1 << many) - 1]
            for shown, (low, high) in list(zip(self._shown, marks))[::-1]:
                reading = shown[number]
                found = in_sequence([bits & high[reading] for bits in found], [bits & low[reading] for bits in found])
            goals.append([found[letter] for letter in self._possible])
        return goals

    def _totals(self, weights):
        return column_sums(self._book, {name: weight for name, weight in zip(self._asked, weights)})

    def _gains(self, weights, number):
        """For each possible letter by how much its falls raise the worth of all moves from a column."""
        # A name with a fall has its reading as its step, that is more by the reading ahead of it.
        found = [0]
        for weight, shown in list(zip(weights, self._shown))[::-1]:
            more = weight * shown[number]
            found = in_sequence(found, [gain + more for gain in found])
        return [found[letter] for letter in self._possible]


def marks_of(shown):
    """For each reading the columns that show no more, and those that show no less, each as bits of a number."""
    exact = [0] * (shown[-1] + 1)
    for number, reading in enumerate(shown):
        exact[reading] = exact[reading] + (1 << number)
    low = [sum(exact[:reading + 1]) for reading in range(len(exact))]
    high = [sum(exact[reading:]) for reading in range(len(exact))]
    return (low, high)


def numbers_in(bits):
    """The numbers of the bits that are 1."""
    return [number for number in range(bits.bit_length()) if bits >> number & 1]


def check_few(asked, limit):
    """Refuses more asked names than the limit."""
    if len(asked) > limit:
        raise TooMany("names", limit)


def is_move(book, filled, asked, before, letter, after):
    """Whether a value is a possible letter that fits two columns, filled being the filled names with their parts."""
    if not is_letter_of(asked, letter) or not agrees(filled, letter):
        return False
    return fits(rises_between(book, asked, before, after), letter)


def worth_of_move(book, weights, before, letter, after):
    """The sum of the weights, a dict from names, each times the step of the name with a letter."""
    total = 0
    for name in weights:
        places = book.places(name)
        step = sum([after[place] for place in places])
        if name not in letter:
            step = step - sum([before[place] for place in places])
        total = total + weights[name] * step
    return total


def row_beside(expression, looks, letters):
    """A Row with these letters, at which an expression that is greater than 0 at these looks is so, too."""
    strict = strict_row(expression.book, expression.asked(), letters)
    # With fixed letters the value is linear, so enough of the looks outweigh the strict row, which brings the letters.
    return Row(expression.book, looks) * (1 + abs(expression.at(strict))) + strict
