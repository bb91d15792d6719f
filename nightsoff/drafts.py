"""Drafts: plans that are being written (point 14)."""

from nightsoff.checks import check_night, check_person
from nightsoff.errors import NamedTwice, NotThere, TooEarly, TooMany, TooSoon
from nightsoff.plans import Plan


class Draft:
    """A plan that is being written for one house. It always fits short."""

    def __init__(self, house):
        self._house = house
        self._rows = ((),) * house.nights

    def __len__(self):
        return len(self._rows)

    def __iter__(self):
        return iter(self._rows)

    def __getitem__(self, at):
        check_night(at, len(self._rows))
        return self._rows[at - 1]

    def __setitem__(self, at, worth):
        check_night(at, len(self._rows))
        for index, person in enumerate(worth):
            self._check_watch(at, person, worth[:index])
        self._check_room(at, len(worth))
        self._replace(at, worth)

    @property
    def placed(self):
        return sum([len(row) for row in self._rows])

    @property
    def vacant(self):
        return self._house.whole - self.placed

    def put(self, night, person):
        """Add one person to the row of a night."""
        row = self[night]
        self._check_watch(night, person, row)
        self._check_room(night, len(row) + 1)
        self._replace(night, [*row, person])

    def take(self, night, person):
        """Remove one person from the row of a night."""
        row = self[night]
        check_person(self._house, person)
        if person not in row:
            raise NotThere(night, person)
        self._replace(night, [other for other in row if other != person])

    def as_plan(self):
        return Plan(self._rows)

    def _check_watch(self, night, person, beside):
        """Check a person for a row in which the people `beside` stand already."""
        check_person(self._house, person)
        if person in beside:
            raise NamedTwice(person)
        if night < self._house.comings[person]:
            raise TooEarly(night, person)
        near = [other for other in self._nights_near(night) if person in self[other]]
        if near:
            raise TooSoon(night, person, near[0])

    def _nights_near(self, night):
        """List the other nights that are not more than the rest away."""
        first = max(1, night - self._house.rest)
        last = min(len(self._rows), night + self._house.rest)
        return [other for other in range(first, last + 1) if other != night]

    def _check_room(self, night, count):
        if count > self._house.wants[night]:
            raise TooMany(night, count)

    def _replace(self, night, people):
        rows = list(self._rows)
        rows[night - 1] = tuple(sorted(people))
        self._rows = tuple(rows)
