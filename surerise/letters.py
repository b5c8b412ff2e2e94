"""Letters: which of some asked names fall at a gap, and which may fall together."""

from surerise.basics import is_list
from surerise.books import check_known
from surerise.errors import ImpossibleLetter, InvalidLetter, InvalidLook, InvalidNames
from surerise.errors import TakenName
from surerise.rows import Row, check_gap, is_look


def filled_names(book, names):
    """The asked names all of whose counters are counters of their parts."""
    return list(filled_parts(book, asked_names(book, names)))


def letter_of(row, names, gap):
    """The asked names that fall at a gap of a row."""
    asked = asked_names(row.book, names)
    check_gap(gap, row.gaps)
    return tuple([name for name in asked if row.falls(name, gap)])


def is_letter(book, names, value):
    """Whether a value is a letter of the asked names."""
    return is_letter_of(asked_names(book, names), value)


def is_possible(book, names, letter):
    """Whether some row has a letter at some gap."""
    asked = asked_names(book, names)
    if not is_letter_of(asked, letter):
        raise InvalidLetter(letter)
    return agrees(filled_parts(book, asked), letter)


def possible_letters(book, names):
    """The letters that rows have, in ascending order of the numbers of their names."""
    asked = asked_names(book, names)
    filled = filled_parts(book, asked)
    return [letter for letter in all_letters(asked) if agrees(filled, letter)]


def fitting_letters(book, names, before, after):
    """The possible letters that fit two looks."""
    possible = possible_letters(book, names)
    for look in (before, after):
        if not is_look(book, look):
            raise InvalidLook(look)
    rises = rises_between(book, asked_names(book, names), before, after)
    return [letter for letter in possible if fits(rises, letter)]


def strict_row(book, names, letters):
    """A Row that has these letters at its gaps, in which each asked name rises or falls at each gap."""
    asked = asked_names(book, names)
    check_letters(book, asked, letters)
    plan = plan_of_changes(book, asked)
    changes = [changes_with(plan, letter, len(book)) for letter in letters]
    # A counter that begins with all that it is going to lose never gets below 0.
    look = [sum([max(0, -one[place]) for one in changes]) for place in range(len(book))]
    looks = [look]
    for change in changes:
        look = [reading + more for reading, more in zip(look, change)]
        looks.append(look)
    return Row(book, looks)


def asked_names(book, names):
    """The asked names in the order of the book."""
    if not is_list(names):
        raise InvalidNames(names)
    taken = {}
    for name in names:
        check_known(book, name)
        if name in taken:
            raise TakenName(name)
        taken[name] = True
    return [name for name in book.names() if name in taken]


def parts_of_asked(book, asked):
    """A dict from the asked names to their parts."""
    parts = {name: [] for name in asked}
    for name in asked:
        groups = [group for group in book.groups_around(name) if group in asked]
        if groups:
            parts[groups[0]].append(name)
    return parts


def filled_parts(book, asked):
    """A dict from the filled names to their parts."""
    parts = parts_of_asked(book, asked)
    return {name: parts[name] for name in asked if parts[name] and is_filled(book, name, parts[name])}


def is_filled(book, name, parts):
    """Whether each counter of a name is a counter of one of its parts, which have none in common."""
    return sum([len(book.places(part)) for part in parts]) == len(book.places(name))


def is_letter_of(asked, value):
    """Whether a value is a letter of asked names that are in the order of the book."""
    if not isinstance(value, tuple) or not all([isinstance(name, str) for name in value]):
        return False
    return list(value) == [name for name in asked if name in value]


def all_letters(asked):
    """All letters, also those that are not possible, in ascending order."""
    found = [()]
    for name in asked[::-1]:
        found = in_sequence(found, [(name,) + letter for letter in found])
    return found


def in_sequence(without, having):
    """What belongs to letters without a first name, and what to those with it, in the sequence of all letters."""
    # The empty letter comes first, then all that begin with the first name.
    return without[:1] + having + without[1:]


def agrees(filled, letter):
    """Whether each filled name falls with one of its parts, and stays out with one of them."""
    for name in filled:
        falling = [part for part in filled[name] if part in letter]
        if name in letter and len(falling) == 0:
            return False
        if name not in letter and len(falling) == len(filled[name]):
            return False
    return True


def rises_between(book, asked, before, after):
    """A dict from the asked names to their readings at the second look minus those at the first one."""
    rises = [behind - ahead for ahead, behind in zip(before, after)]
    return {name: sum([rises[place] for place in book.places(name)]) for name in asked}


def fits(rises, letter):
    """Whether all names that get less are in a letter, and none that gets more."""
    for name in rises:
        if (rises[name] < 0 and name not in letter) or (rises[name] > 0 and name in letter):
            return False
    return True


def check_letters(book, asked, letters):
    """Refuses what is no list of letters, then a letter that is not possible."""
    if not is_list(letters):
        raise InvalidLetter(letters)
    for letter in letters:
        if not is_letter_of(asked, letter):
            raise InvalidLetter(letter)
    filled = filled_parts(book, asked)
    for position, letter in enumerate(letters):
        if not agrees(filled, letter):
            raise ImpossibleLetter(position)


def plan_of_changes(book, asked):
    """What settles the asked names one by one, the parts of a name ahead of it.

    There is a tuple for each name: the name, its parts, for each part the numbers of its counters, and the number of
    the first counter of the name that is in no part, None if the name is filled.
    """
    parts = parts_of_asked(book, asked)
    plan = []
    # Names with fewer counters come first.
    for name in sorted_by_size(book, asked):
        inner = [book.places(part) for part in parts[name]]
        bare = [place for place in book.places(name) if not any([place in places for places in inner])]
        plan.append((name, parts[name], inner, bare[0] if bare else None))
    return plan


def sorted_by_size(book, asked):
    """The asked names, those with fewer counters first."""
    sizes = {name: len(book.places(name)) for name in asked}
    return [name for size in range(1, len(book) + 1) for name in asked if sizes[name] == size]


def changes_with(plan, letter, many):
    """The changes of so many counters by which just the names of a possible letter fall.

    One counter or one part of each name changes so much that it outweighs the rest of the name.
    """
    changes = [0] * many
    sums = {}
    for name, parts, inner, bare in plan:
        total = sum([sums[part] for part in parts])
        weight = 1 + sum([abs(sums[part]) for part in parts])
        if bare is not None:
            changes[bare] = -weight if name in letter else weight
            sums[name] = total + changes[bare]
        else:
            leading = leading_part(parts, letter, name in letter)
            # Multiplying all changes of a part leaves what falls in it as it is.
            for place in inner[leading]:
                changes[place] = changes[place] * weight
            sums[name] = total + sums[parts[leading]] * (weight - 1)
    return changes


def leading_part(parts, letter, falls):
    """The number of the first part that does what the whole name does."""
    return [number for number, part in enumerate(parts) if (part in letter) == falls][0]
