"""Told numbers: tellings and lists of numbers (points 6 and 11)."""

from nightsoff.checks import MOST_PEOPLE, check_count, check_not_negative, check_numbers
from nightsoff.errors import BadNumber, NamedTwice, NoPerson, WrongLength

LIMIT = 10 ** 30


class Telling:
    """The nights that person 0, 1 and so on kept. It is never changed."""

    def __init__(self, entries):
        check_count(len(entries), MOST_PEOPLE)
        check_numbers(entries, LIMIT)
        self.entries = tuple(entries)

    def __len__(self):
        return len(self.entries)

    def __iter__(self):
        return iter(self.entries)

    def __getitem__(self, at):
        self._check_place(at)
        return self.entries[at]

    def __eq__(self, other):
        return isinstance(other, Telling) and self.entries == other.entries

    def __lt__(self, other):
        if not isinstance(other, Telling):
            return NotImplemented
        return self.entries < other.entries

    def __add__(self, other):
        self._check_alike(other)
        return Telling([one + two for one, two in zip(self.entries, other.entries)])

    def __mul__(self, other):
        check_not_negative(other)
        return Telling([entry * other for entry in self.entries])

    def __rmul__(self, other):
        return self * other

    def __xor__(self, other):
        self._check_alike(other)
        return sum([abs(one - two) for one, two in zip(self.entries, other.entries)])

    def __abs__(self):
        return sum(self.entries)

    def no_steeper(self, other):
        """Say whether this telling is no steeper than the other one."""
        self._check_alike(other)
        if abs(self) != abs(other):
            return False
        # How much more the greatest entries so far are together in `other`.
        ahead = 0
        mine = sorted(self.entries, reverse=True)
        theirs = sorted(other.entries, reverse=True)
        for one, two in zip(mine, theirs):
            ahead = ahead + two - one
            if ahead < 0:
                return False
        return True

    def moved(self, giver, taker, count=1):
        """Return the telling after `count` nights went from giver to taker."""
        self._check_place(giver)
        self._check_place(taker)
        if giver == taker:
            raise NamedTwice(taker)
        check_not_negative(count)
        entries = list(self.entries)
        entries[giver] -= count
        entries[taker] += count
        if entries[giver] < 0:
            raise BadNumber(giver, entries[giver])
        return Telling(entries)

    def _check_place(self, person):
        if not 0 <= person < len(self.entries):
            raise NoPerson(person)

    def _check_alike(self, other):
        if len(other) != len(self.entries):
            raise WrongLength(len(other), len(self.entries))


def told_numbers(house, told):
    """Check told numbers (point 6) and return them as a new list."""
    if len(told) != house.people:
        raise WrongLength(len(told), house.people)
    check_numbers(told, LIMIT)
    return list(told)


def greatest_first(numbers):
    """List the persons, those with the greatest numbers first."""
    # Negative numbers, so that equal people stay in ascending order.
    return [person for _, person in sorted([(-number, person)
                                            for person, number in enumerate(numbers)])]
