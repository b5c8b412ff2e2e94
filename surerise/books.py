"""Books: which counters there are, and which groups they form."""

from surerise.basics import is_list, is_name
from surerise.errors import CrossingGroups, InvalidCounters, InvalidGroup, InvalidGroups
from surerise.errors import InvalidName, SameGroup, TakenName, UnknownName


class Book:
    """One to five counters in a fixed sequence, and groups of them that never cross."""

    MOST_COUNTERS = 5

    def __init__(self, counters, groups=()):
        if not is_list(counters) or not 1 <= len(counters) <= Book.MOST_COUNTERS:
            raise InvalidCounters(counters)
        check_counters(counters)
        if not is_list(groups):
            raise InvalidGroups(groups)
        grouped = members_of_groups(counters, groups)
        self._counters = list(counters)
        # The keys are in the order of the book; all lists of names follow them.
        self._members = {counter: [counter] for counter in counters}
        for name in sorted(grouped, key=str):
            self._members[name] = grouped[name]
        # These are asked for so often that they are worked out only once.
        self._places = {name: places_among(self._counters, self._members[name]) for name in self._members}
        self._groups_around = outer_groups(self._members)

    def counters(self):
        """The counters, in their sequence."""
        return list(self._counters)

    def groups(self):
        """The sorted names of the groups."""
        return [name for name in self._members if name not in self._counters]

    def names(self):
        """All names, in the order of the book."""
        return list(self._members)

    def members(self, name):
        """The counters of a name."""
        check_known(self, name)
        return list(self._members[name])

    def within(self, name):
        """The names that lie within a name."""
        check_known(self, name)
        return [inner for inner in self._members if name in self._groups_around[inner]]

    def above(self, name):
        """The name with the fewest counters in which a name lies, None if there is none."""
        check_known(self, name)
        outer = self._groups_around[name]
        return outer[0] if outer else None

    def groups_around(self, name):
        """The tuple of the groups in which a name of the book lies, those with fewer counters first."""
        return self._groups_around[name]

    def places(self, name):
        """The tuple of the numbers of the counters of a name of the book, in the sequence of all counters."""
        return self._places[name]

    def __contains__(self, x):
        return isinstance(x, str) and x in self._members

    def __len__(self):
        return len(self._counters)

    def __eq__(self, other):
        return isinstance(other, Book) and self._counters == other._counters and self._members == other._members


def check_known(book, name):
    """Refuses what is no name of a book."""
    if name not in book:
        raise UnknownName(name)


def places_among(counters, members):
    """The tuple of the numbers of some of the counters."""
    return tuple([place for place, counter in enumerate(counters) if counter in members])


def outer_groups(members):
    """A dict from the names to the groups in which they lie, those with fewer counters first."""
    groups = sorted([[name] + members[name] for name in members if len(members[name]) > 1], key=len)
    return {name: groups_with(groups, members[name]) for name in members}


def groups_with(groups, members):
    """The tuple of those groups, lists of a name and its counters, that have all of the members and more."""
    # As groups do not cross, a larger one with one of the members has all of them.
    return tuple([group[0] for group in groups if len(group) > len(members) + 1 and members[0] in group[1:]])


def check_counters(counters):
    """Refuses the first counter that is no NAME, or stands there already."""
    for position, counter in enumerate(counters):
        if not is_name(counter):
            raise InvalidName(counter)
        if counter in counters[:position]:
            raise TakenName(counter)


def members_of_groups(counters, groups):
    """A dict from the names of the groups, as they were given, to their counters in order."""
    grouped = {}
    for position, group in enumerate(groups):
        if not is_group(counters, group):
            raise InvalidGroup(position)
        name, members = group
        if name in counters or name in grouped:
            raise TakenName(name)
        for earlier in grouped:
            check_apart(name, members, earlier, grouped[earlier])
        grouped[name] = [counter for counter in counters if counter in members]
    return grouped


def is_group(counters, group):
    """Whether a value is a tuple of a NAME and at least two different counters."""
    if not isinstance(group, tuple) or len(group) != 2:
        return False
    name, members = group
    if not is_name(name) or not is_list(members) or len(members) < 2:
        return False
    for position, member in enumerate(members):
        if not is_name(member) or member not in counters or member in members[:position]:
            return False
    return True


def check_apart(name, members, earlier, others):
    """Refuses a group that is the same as an earlier one, or crosses it."""
    shared = [counter for counter in members if counter in others]
    if len(shared) == len(members) == len(others):
        raise SameGroup(name, earlier)
    if 0 < len(shared) < min(len(members), len(others)):
        raise CrossingGroups(name, earlier)
