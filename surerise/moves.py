"""Moves from column to column, and what they are worth.

A move from a column is a letter and a column where it leads. With step weights it is worth the sum of the weights,
each times the step of the name.
"""

from surerise.columns import column_sums
from surerise.errors import TooMany
from surerise.letters import agrees, all_letters, filled_parts, in_sequence, possible_letters, strict_row
from surerise.rows import Row


class Moves:
    """All moves between the columns of a book, for names in the order of the book.

    Columns and states are told by their numbers; the first state is number 0. Turns tell for each state which letters
    are allowed in it: they are dicts from these letters to the numbers of the next states. Weights are dicts from some
    of the names, heights are lists of one for each column, and beyond are the heights for each state.
    """

    def __init__(self, book, names, turns):
        self._book = book
        self._asked = names
        letters = all_letters(names)
        filled = filled_parts(book, names)
        self._possible = [number for number, letter in enumerate(letters) if agrees(filled, letter)]
        self._letters = [letters[number] for number in self._possible]
        self._shown = [column_sums(book, {name: 1}) for name in names]
        goals = self._goals(1 << len(book))
        # Many moves lead to the same columns, so the best of these is looked for only once.
        distinct = list({bits: True for row in goals for bits in row})
        self._ends = [numbers_in(bits) for bits in distinct]
        places = {bits: place for place, bits in enumerate(distinct)}
        # In many states the same letters lead to one next state, so these are put together as parts of all letters.
        groups = [letter_groups(self._letters, turn) for turn in turns]
        self._parts = list({group[goal]: True for group in groups for goal in group})
        numbers = {part: number for number, part in enumerate(self._parts)}
        self._groups = [[(goal, numbers[group[goal]]) for goal in group] for group in groups]
        self._table = [[[places[row[letter]] for letter in part] for row in goals] for part in self._parts]

    def many_states(self):
        """How many states there are."""
        return len(self._groups)

    def next_states(self, state):
        """The states to which moves lead from a state."""
        return [goal for goal, _ in self._groups[state]]

    def sources(self):
        """For each state the list of the states from which moves lead to it."""
        states = range(len(self._groups))
        return [[source for source in states if goal in self.next_states(source)] for goal in states]

    def letters_to(self, state):
        """Letters that lead from the first state to another one."""
        found = {0: []}
        # Each state is reached from one with an earlier number.
        for source, groups in enumerate(self._groups):
            for goal, part in groups:
                if goal not in found:
                    found[goal] = found[source] + [self._letters[self._parts[part][0]]]
        return found[state]

    def worths(self, weights):
        """What the other methods need to know of weights, a tuple of two lists.

        For each column there is the sum of the weights, each times the reading. For each part of the letters and each
        column there is a list of how much each letter, by its falls, raises the worth of all moves from there.
        """
        totals = column_sums(self._book, weights)
        gains = [self._gains(weights, number) for number in range(len(totals))]
        return (totals, [[[gain[letter] for letter in part] for gain in gains] for part in self._parts])

    def tops(self, worths, heights):
        """For each of the sets of columns where moves lead the best that the totals and the heights make there."""
        reached = [total + height for total, height in zip(worths[0], heights)]
        return [greatest_at(reached, ends) for ends in self._ends]

    def climb(self, worths, tops, state):
        """For each column the greatest worth of a move in a state together with the height of where it leads.

        Of tops, which are those for each state, the ones of the next states are needed.
        """
        totals, gains = worths
        return [max(self._sums(gains, tops, state, number), key=int) - total for number, total in enumerate(totals)]

    def best_move(self, worths, tops, beyond, state, number):
        """One of the moves from a column that climb finds: its letter, and the state and the column where it leads.

        These two are a tuple of their numbers.
        """
        totals, gains = worths
        sums = self._sums(gains, tops, state, number)
        most = max(sums, key=int)
        goal, part = self._groups[state][sums.index(most)]
        row = self._table[part][number]
        at = [gain + tops[goal][end] for gain, end in zip(gains[part][number], row)].index(most)
        best = tops[goal][row[at]]
        column = [end for end in self._ends[row[at]] if totals[end] + beyond[goal][end] == best][0]
        return (self._letters[self._parts[part][at]], (goal, column))

    def _sums(self, gains, tops, state, number):
        """For each next state of a state the best that moves from a column to it make."""
        groups = self._groups[state]
        return [greatest_sum(gains[part][number], self._table[part][number], tops[goal]) for goal, part in groups]

    def _goals(self, many):
        """For each column, for each possible letter, the columns where it may lead as bits of a number."""
        marks = [marks_of(shown) for shown in self._shown]
        goals = []
        for number in range(many):
            found = [(1 << many) - 1]
            for shown, (low, high) in list(zip(self._shown, marks))[::-1]:
                reading = shown[number]
                found = in_sequence([bits & high[reading] for bits in found], [bits & low[reading] for bits in found])
            goals.append([found[letter] for letter in self._possible])
        return goals

    def _gains(self, weights, number):
        """For each possible letter by how much its falls raise the worth of all moves from a column."""
        # A name with a fall has its reading as its step, that is more by the reading ahead of it.
        found = [0]
        for name, shown in list(zip(self._asked, self._shown))[::-1]:
            more = weights.get(name, 0) * shown[number]
            found = in_sequence(found, [gain + more for gain in found])
        return [found[letter] for letter in self._possible]


def free_moves(book, names):
    """All moves for names in the order of the book, without facts: there is one state, and all letters are allowed."""
    return Moves(book, names, [{letter: 0 for letter in possible_letters(book, names)}])


def letter_groups(letters, turn):
    """A dict from the next states of a turn to the tuples of the numbers of the letters that lead there."""
    groups = {}
    for number, letter in enumerate(letters):
        if letter in turn:
            groups.setdefault(turn[letter], []).append(number)
    return {goal: tuple(groups[goal]) for goal in groups}


def marks_of(shown):
    """For each reading the columns that show no more, and those that show no less, each as bits of a number."""
    exact = [0] * (shown[-1] + 1)
    for number, reading in enumerate(shown):
        exact[reading] = exact[reading] + (1 << number)
    low = [sum(exact[:reading + 1]) for reading in range(len(exact))]
    high = [sum(exact[reading:]) for reading in range(len(exact))]
    return (low, high)


def numbers_in(bits):
    """The numbers of the bits that are 1."""
    return [number for number in range(bits.bit_length()) if bits >> number & 1]


def greatest_at(numbers, places):
    """The greatest one of some of the numbers."""
    # This is asked so often that it is written out; max with a key takes twice as long.
    best = numbers[places[0]]
    for place in places:
        if numbers[place] > best:
            best = numbers[place]
    return best


def greatest_sum(gains, places, tops):
    """The greatest sum of a gain and of the top at its place."""
    best = gains[0] + tops[places[0]]
    for gain, place in zip(gains, places):
        found = gain + tops[place]
        if found > best:
            best = found
    return best


def check_few(names, limit):
    """Refuses more names than the limit."""
    if len(names) > limit:
        raise TooMany("names", limit)


def worth_of_move(book, weights, before, letter, after):
    """The sum of the weights, a dict from names, each times the step of the name with a letter."""
    total = 0
    for name in weights:
        places = book.places(name)
        step = sum([after[place] for place in places])
        if name not in letter:
            step = step - sum([before[place] for place in places])
        total = total + weights[name] * step
    return total


def row_beside(expression, names, looks, letters):
    """A Row with these letters of names, at which an expression that is greater than 0 at these looks is so, too."""
    strict = strict_row(expression.book, names, letters)
    # With fixed letters the value is linear, so enough of the looks outweigh the strict row, which brings the letters.
    return Row(expression.book, looks) * (1 + abs(expression.at(strict))) + strict
