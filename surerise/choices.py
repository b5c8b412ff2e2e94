"""Choices of some numbers out of all below a number."""


def all_sets(many):
    """All ascending lists of numbers below a number, shorter ones first, those of one length in ascending order."""
    layer = [[]]
    found = []
    for _ in range(many + 1):
        found = found + layer
        layer = [numbers + [more] for numbers in layer for more in range(many) if not numbers or more > numbers[-1]]
    return found
