"""Reductions: what is left of a question if late series are taken away from it, by as few gaps as possible.

Weights are lists of INTEGERS here, of which the last one is not 0. The place of a name in them, so many gaps ago, is
that number times the number of names, plus the number of the name; so what is late by a gap has all its weights further
behind by the number of names. Shares tell of which series, late by how much, something is made, and their places are
made likewise.
"""

from math import gcd


class Part:
    """Weights, the shares of which they are made, and how many gaps that needs; where the last weight is, is noted."""

    def __init__(self, weights, shares, needed, width):
        self.weights = weights
        self.shares = shares
        self.needed = needed
        self.ago, self.number = divmod(len(weights) - 1, width)


class Sums:
    """Sums of late series that need no more gaps than there are, of which there may get more.

    Of the sums as few parts are kept as possible, so that where any sum has its last weight, a kept part has it, too,
    if it is late enough, and then needs no more gaps than there are. For each name there is a list of the kept parts
    that end with it. Of two of them, the one that does so longer ago comes first, and needs fewer gaps beyond that.
    """

    def __init__(self, series, width):
        self._width = width
        # In all shares there is one more, behind those of the series, for the question that is reduced.
        self._many = len(series) + 1
        self._waiting = [self._part(weights, number) for number, weights in enumerate(series)]
        self._kept = [[] for _ in range(width)]
        self._level = 0

    def left_of(self, weights, most):
        """What is left of a question without all sums that need at most so many gaps; None stands for any number.

        If no weights are left, what it needs is the least number of gaps with which this is so.
        """
        left = self._reduced(self._part(weights, self._many - 1))
        while left.weights:
            level = self._next_level(left)
            if level is None or (most is not None and level > most):
                return left
            self._grow(level)
            left = self._reduced(left)
        return left

    def telling_apart(self, left, gaps):
        """Numbers for all places of so many gaps, with which all sums are 0 that need no more, but what is left is not.

        What is left is that of a question without just these sums.
        """
        self._level = gaps
        found = [0] * (gaps * self._width)
        start = len(left.weights) - 1
        found[start] = 1
        # Where sums have their last weights, these bring each of them to 0, and what is left has no weight there.
        for place in range(start + 1, len(found)):
            ago, number = divmod(place, self._width)
            one = self._leading(ago, number)
            if one is not None:
                behind = found[(ago - one.ago) * self._width:place]
                total = sum([weight * x for weight, x in zip(one.weights, behind)])
                times = abs(one.weights[-1]) // gcd(total, one.weights[-1])
                found = [times * x for x in found]
                found[place] = -total * times // one.weights[-1]
        return found

    def _part(self, weights, number):
        """The part that is the series with a number, or the question."""
        span = -(-len(weights) // self._width)
        return Part(weights, [0] * number + [1], span, self._width)

    def _next_level(self, left):
        """The next number of gaps that brings more parts, or reduces what is left further, None if there is none."""
        found = [one.needed for one in self._waiting] + [level for level, _, _ in self._pairs()]
        found = found + [left.ago + beyond(one) for one in self._kept[left.number] if one.ago <= left.ago]
        later = [level for level in found if level > self._level]
        return min(later, key=int) if later else None

    def _grow(self, level):
        """Goes on to a number of gaps, ahead of which nothing new comes."""
        self._level = level
        fresh = [one for one in self._waiting if one.needed == level]
        self._waiting = [one for one in self._waiting if one.needed > level]
        # Two parts without the last weight, by which each reduces the other one, may lead where no part does.
        fresh = fresh + [self._without_last(one, other) for at, one, other in self._pairs() if at == level]
        for part in fresh:
            self._keep(self._reduced(part))

    def _reduced(self, part):
        """What is left of a multiple of a part if its last weights are taken away, as long as a kept part can do so."""
        while part.weights:
            other = self._leading(part.ago, part.number)
            if other is None:
                return part
            part = self._without_last(part, other)
        return part

    def _leading(self, ago, number):
        """A kept part that has its last weight at a place if it is late enough, None if there is none."""
        for one in self._kept[number]:
            if one.ago <= ago and ago + beyond(one) <= self._level:
                return one
        return None

    def _pairs(self):
        """For kept parts next to each other the number of gaps with which both have their last weight at one place."""
        pairs = [pair for row in self._kept for pair in zip(row, row[1:])]
        return [(one.ago + beyond(other), one, other) for one, other in pairs]

    def _keep(self, part):
        """Keeps a part that leads where no kept one does."""
        if part.weights:
            row = self._kept[part.number]
            row.insert(len([one for one in row if one.ago > part.ago]), part)

    def _without_last(self, one, other):
        """A multiple of one minus a multiple of other, late so that both have their last weight at one place."""
        late = one.ago - other.ago
        shared = gcd(one.weights[-1], other.weights[-1])
        times, less = (other.weights[-1] // shared, one.weights[-1] // shared)
        weights = difference(one.weights, times, [0] * (late * self._width) + other.weights, less)
        shares = difference(one.shares, times, [0] * (late * self._many) + other.shares, less)
        divisor = shared_divisor(weights + shares)
        weights = [weight // divisor for weight in without_zeros(weights)]
        return Part(weights, [share // divisor for share in shares], self._level, self._width)


def beyond(part):
    """How many gaps a part needs beyond the one of its last weight, however late it is."""
    return part.needed - part.ago


def difference(one, times, other, less):
    """One list times a number minus another one times a number, the shorter one filled up with zeros."""
    length = max(len(one), len(other))
    mine = one + [0] * (length - len(one))
    theirs = other + [0] * (length - len(other))
    return [times * x - less * y for x, y in zip(mine, theirs)]


def without_zeros(numbers):
    """The numbers without the zeros at the end."""
    many = len(numbers)
    while many > 0 and numbers[many - 1] == 0:
        many = many - 1
    return numbers[:many]


def shared_divisor(numbers):
    """The greatest number by which all of the numbers can be divided."""
    found = 0
    for number in numbers:
        found = gcd(found, number)
        if found == 1:
            return 1
    return found
