"""Letters: which of some asked names fall at a gap, and which may fall together."""

from surerise.basics import is_list
from surerise.errors import ImpossibleLetter, InvalidLetter, InvalidLook, InvalidNames
from surerise.errors import TakenName, UnknownName
from surerise.rows import Row, check_gap, is_look


def filled_names(book, names):
    """The asked names all of whose counters are counters of their parts."""
    return list(filled_parts(book, asked_names(book, names)))


def letter_of(row, names, gap):
    """The asked names that fall at a gap of a row."""
    asked = asked_names(row.book, names)
    check_gap(gap, row.gaps)
    return tuple([name for name in asked if row.falls(name, gap)])


def is_letter(book, names, value):
    """Whether a value is a letter of the asked names."""
    return is_letter_of(asked_names(book, names), value)


def is_possible(book, names, letter):
    """Whether some row has a letter at some gap."""
    asked = asked_names(book, names)
    if not is_letter_of(asked, letter):
        raise InvalidLetter(letter)
    return agrees(filled_parts(book, asked), letter)


def possible_letters(book, names):
    """The letters that rows have, in ascending order of the numbers of their names."""
    asked = asked_names(book, names)
    filled = filled_parts(book, asked)
    return [letter for letter in all_letters(asked) if agrees(filled, letter)]


def fitting_letters(book, names, before, after):
    """The possible letters that fit two looks."""
    possible = possible_letters(book, names)
    for look in (before, after):
        if not is_look(book, look):
            raise InvalidLook(look)
    rises = {name: rise_between(book, name, before, after) for name in asked_names(book, names)}
    return [letter for letter in possible if fits(rises, letter)]


def strict_row(book, names, letters):
    """A Row that has these letters at its gaps, in which each asked name rises or falls at each gap."""
    asked = asked_names(book, names)
    check_letters(book, asked, letters)
    counters = book.counters()
    changes = [changes_with(book, asked, letter) for letter in letters]
    # A counter that begins with all that it is going to lose never gets below 0.
    look = [sum([max(0, -one[counter]) for one in changes]) for counter in counters]
    looks = [look]
    for change in changes:
        look = [reading + change[counter] for counter, reading in zip(counters, look)]
        looks.append(look)
    return Row(book, looks)


def asked_names(book, names):
    """The asked names in the order of the book."""
    if not is_list(names):
        raise InvalidNames(names)
    for position, name in enumerate(names):
        if name not in book:
            raise UnknownName(name)
        if name in names[:position]:
            raise TakenName(name)
    return [name for name in book.names() if name in names]


def parts_of(book, asked, name):
    """The asked names within a name that do not lie within a further one there."""
    inner = [other for other in book.within(name) if other in asked]
    return [part for part in inner if not any([part in book.within(other) for other in inner])]


def bare_counters(book, parts, name):
    """The counters of a name that are counters of none of its parts."""
    return [counter for counter in book.members(name) if not any([counter in book.members(part) for part in parts])]


def filled_parts(book, asked):
    """A dict from the filled names to their parts."""
    parts = {name: parts_of(book, asked, name) for name in asked}
    return {name: parts[name] for name in asked if not bare_counters(book, parts[name], name)}


def is_letter_of(asked, value):
    """Whether a value is a letter of asked names that are in the order of the book."""
    if not isinstance(value, tuple) or not all([isinstance(name, str) for name in value]):
        return False
    return list(value) == [name for name in asked if name in value]


def all_letters(asked):
    """All letters, also those that are not possible, in ascending order."""
    found = [()]
    for name in asked[::-1]:
        # Letters that begin with an earlier name come first, but behind the empty one.
        found = [()] + [(name,) + letter for letter in found] + found[1:]
    return found


def agrees(filled, letter):
    """Whether each filled name falls with one of its parts, and stays out with one of them."""
    for name in filled:
        falling = [part for part in filled[name] if part in letter]
        if name in letter and len(falling) == 0:
            return False
        if name not in letter and len(falling) == len(filled[name]):
            return False
    return True


def rise_between(book, name, before, after):
    """The reading of a name at the second look minus that at the first one."""
    counters = book.counters()
    members = book.members(name)
    return sum([behind - ahead for counter, ahead, behind in zip(counters, before, after) if counter in members])


def fits(rises, letter):
    """Whether all names that get less are in a letter, and none that gets more."""
    for name in rises:
        if (rises[name] < 0 and name not in letter) or (rises[name] > 0 and name in letter):
            return False
    return True


def check_letters(book, asked, letters):
    """Refuses what is no list of letters, then a letter that is not possible."""
    if not is_list(letters):
        raise InvalidLetter(letters)
    for letter in letters:
        if not is_letter_of(asked, letter):
            raise InvalidLetter(letter)
    filled = filled_parts(book, asked)
    for position, letter in enumerate(letters):
        if not agrees(filled, letter):
            raise ImpossibleLetter(position)


def changes_with(book, asked, letter):
    """A dict from the counters to changes by which just the names of a possible letter fall."""
    changes = {counter: 0 for counter in book.counters()}
    # Names with fewer counters come first, so all parts of a name are settled ahead of it.
    for size in range(1, len(book) + 1):
        for name in asked:
            if len(book.members(name)) == size:
                settle(book, asked, letter, name, changes)
    return changes


def settle(book, asked, letter, name, changes):
    """Changes one counter or one part of a name so much that it outweighs the rest of the name."""
    parts = parts_of(book, asked, name)
    bare = bare_counters(book, parts, name)
    sums = [sum([changes[counter] for counter in book.members(part)]) for part in parts]
    weight = 1 + sum([abs(total) for total in sums])
    if bare:
        changes[bare[0]] = -weight if name in letter else weight
        return
    # Multiplying all changes of a part leaves what falls in it as it is.
    leading = [part for part in parts if (part in letter) == (name in letter)]
    for counter in book.members(leading[0]):
        changes[counter] = changes[counter] * weight
