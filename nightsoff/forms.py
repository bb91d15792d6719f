"""Forms: weighted sums of told numbers (point 32)."""

from nightsoff.checks import MOST_PEOPLE, check_count
from nightsoff.errors import BadNumber, NoPerson, WrongLength
from nightsoff.tellings import LIMIT, greatest_first


class Form:
    """A weight for each person. It is never changed."""

    def __init__(self, weights):
        check_count(len(weights), MOST_PEOPLE)
        for index, weight in enumerate(weights):
            if not -LIMIT <= weight <= LIMIT:
                raise BadNumber(index, weight)
        self.weights = tuple(weights)

    @classmethod
    def of(cls, people, *persons):
        for person in persons:
            if not 0 <= person < people:
                raise NoPerson(person)
        return cls([persons.count(person) for person in range(people)])

    def __len__(self):
        return len(self.weights)

    def __add__(self, other):
        self._check_length(len(other))
        return Form([one + two for one, two in zip(self.weights, other.weights)])

    def __sub__(self, other):
        self._check_length(len(other))
        return Form([one - two for one, two in zip(self.weights, other.weights)])

    def __mul__(self, other):
        return Form([weight * other for weight in self.weights])

    def __rmul__(self, other):
        return self * other

    def __neg__(self):
        return Form([-weight for weight in self.weights])

    def __call__(self, told):
        self._check_length(len(told))
        return sum([weight * number for weight, number in zip(self.weights, told)])

    def order(self):
        """List the persons, those with the greatest weights first."""
        return greatest_first(self.weights)

    def _check_length(self, found):
        if found != len(self.weights):
            raise WrongLength(found, len(self.weights))
