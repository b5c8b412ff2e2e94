"""Columns: looks with a 0 or a 1 for each counter."""

from surerise.basics import is_integer


def columns(book):
    """All columns, in ascending order."""
    found = [()]
    for _ in range(len(book)):
        found = [column + (reading,) for column in found for reading in (0, 1)]
    return found


def is_column(book, value):
    """Whether a value is a column of the book."""
    if not isinstance(value, tuple) or len(value) != len(book):
        return False
    return all([is_integer(reading) and 0 <= reading <= 1 for reading in value])


def column_sums(book, weights):
    """For each column the sum of the weights, a dict from names, each times the reading."""
    shares = [0] * len(book)
    for name in weights:
        for place in book.places(name):
            shares[place] = shares[place] + weights[name]
    sums = [0]
    for share in shares:
        sums = [total for less in sums for total in (less, less + share)]
    return sums


def is_column_table(book, value):
    """Whether a value is a dict from all columns, and nothing else, to INTEGERS."""
    if not isinstance(value, dict) or len(value) != len(columns(book)):
        return False
    return all([is_column(book, key) and is_integer(value[key]) for key in value])
