"""The kinds of values that all parts of the package share."""

from math import gcd

from surerise.errors import InvalidInteger

LETTERS = "abcdefghijklmnopqrstuvwxyz"
DIGITS = "0123456789"
LONGEST_NAME = 8
LONGEST_NUMERAL = 40


def is_integer(value):
    """Whether a value is an int that is not a bool."""
    return isinstance(value, int) and not isinstance(value, bool)


def is_count(value):
    """Whether a value is an INTEGER that is at least 0."""
    return is_integer(value) and value >= 0


def is_name(value):
    """Whether a value is a string of one to eight letters and digits, the first a letter."""
    if not isinstance(value, str) or not 1 <= len(value) <= LONGEST_NAME:
        return False
    return value[0] in LETTERS and all([sign in LETTERS + DIGITS for sign in value])


def is_ratio(value):
    """Whether a value is a tuple of two INTEGERS that stands for a fraction in lowest terms."""
    if not isinstance(value, tuple) or len(value) != 2:
        return False
    numerator, denominator = value
    if not is_integer(numerator) or not is_integer(denominator):
        return False
    return denominator >= 1 and gcd(numerator, denominator) == 1


def ratio_of(numerator, denominator=1):
    """The RATIO with the value of a fraction."""
    if not is_integer(numerator):
        raise InvalidInteger(numerator)
    if not is_integer(denominator) or denominator == 0:
        raise InvalidInteger(denominator)
    shared = gcd(numerator, denominator)
    # Dividing by a negative number moves the sign up to the numerator.
    if denominator < 0:
        shared = -shared
    return (numerator // shared, denominator // shared)


def is_list(value):
    """Whether a value may stand where the text says list."""
    return isinstance(value, (list, tuple))


def is_numeral(word):
    """Whether a string is a COUNT in decimal without unnecessary zeros, of at most forty digits."""
    if not 1 <= len(word) <= LONGEST_NUMERAL or not all([sign in DIGITS for sign in word]):
        return False
    return word == "0" or word[0] != "0"
