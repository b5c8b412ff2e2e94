"""Weights: dicts from names, or from names and numbers, to INTEGERS other than 0."""


def added(one, other, times):
    """The weights of one, and those of other times a number."""
    total = {key: one[key] for key in one}
    for key in other:
        total[key] = total.get(key, 0) + other[key] * times
    return {key: total[key] for key in total if total[key] != 0}


def total_of(pairs):
    """The sums of the weights in a list of tuples (key, weight), without those that are 0."""
    total = {}
    for key, weight in pairs:
        total[key] = total.get(key, 0) + weight
    return {key: total[key] for key in total if total[key] != 0}


def multiplied(weights, times):
    """The weights times a number."""
    return {key: weights[key] * times for key in weights if times != 0}


def in_order_of_names(book, weights):
    """Weights of names in the order of the book."""
    return {name: weights[name] for name in book.names() if name in weights}


def in_order_of_pairs(book, weights):
    """Weights of names and numbers in the order of the names, of one name by ascending numbers."""
    numbers = {name: [] for name in book.names()}
    for name, number in weights:
        numbers[name].append(number)
    return {(name, number): weights[name, number] for name in numbers for number in sorted(numbers[name], key=int)}
